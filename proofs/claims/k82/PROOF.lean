import PyProof.Rows.All
import Wide.All
import OpenK.AllK
import Wide.FinOn
import Lean
import PyProof.EqAt
import PyProof.EqKinds
import PyProof.TupleCall
import PyProof.Logic
import PyProof.ListStr
import KE.KStrOpen
import PyProof.Rows.StrFirst
import PyProof.Rows.StrMul
import Open.Pieces
import KE.KPairComp
import KE.KRevIter
import PyProof.EnumMake
import PyProof.IsRules
import PyProof.AutoListH
import PyProof.ConsumeWalk
import PyProof.Rows.SortWalk
import PyProof.DictValues
import PyProof.DictWalks
import PyProof.Rows.SumAny
import PyProof.AttrMissHeap
import KE.KIntText
import PyProof.FString
import PyProof.FitsInt
import PyProof.Rows.FStr
import PyProof.Rows.StrNews
import PyProof.Rows.ListMade
import PyProof.StrLawsTight
import PyProof.TupleOfSeq
import KE.IntTextLaws
import PySem.Challenge.RW_twinwires_k82_texts_of_no_work
set_option maxRecDepth 100000
namespace Tw
open PySem PySem.Calls PySem.W PyProof.Rows

/-- the top's run on the tree of the heap, in one go; the count of the tokens is reckoned at each step -/
def runG (thr ok : Thread → Bool) (go : SharedT → Thread → Option (SharedT × Thread)) : Nat → SharedT → Thread → Option SharedT
  | 0, _, _ => none
  | m + 1, a, x => match thr x with
    | true => some a
    | false => match ok x with
      | false => none
      | true => match go a x with
        | some (b, y) => (match Nat.beq b.toks b.toks with
          | true => runG thr ok go m b y
          | false => none)
        | none => none

theorem runG_top {tb : String → Option Builtin} {p : Program} {w : World} {i : Nat} {an : Option Value} : ∀ (m : Nat) (a b : SharedT) (x : Thread),
    runG through (stepOk i an) (stepT (denote tb) p w) m a x = some b → topRun tb p w i an m a.abs x = some b.abs
  | 0, _, _, _, h => by cases h
  | m + 1, a, b, x, h => by
    unfold runG at h
    unfold topRun
    cases e1 : through x with
    | true => rw [e1] at h; cases h; rfl
    | false =>
      rw [e1] at h
      cases e2 : stepOk i an x with
      | false => rw [e2] at h; cases h
      | true =>
        rw [e2] at h
        cases e3 : stepT (denote tb) p w a x with
        | none => rw [e3] at h; cases h
        | some r =>
          obtain ⟨c, y⟩ := r
          rw [e3] at h
          rw [stepT_spec e3]
          dsimp only at h ⊢
          cases e4 : Nat.beq c.toks c.toks with
          | false => rw [e4] at h; cases h
          | true => rw [e4] at h; exact runG_top m c b y h

def runT (p : Program) (w : World) (i : Nat) (an : Option Value) (m : Nat) (a : SharedT) : Option SharedT := runG through (stepOk i an) (stepT (denote treeTable) p w) m a (topStub p)
noncomputable def bootT (P : Params) : BT := ((boot_heap P).objs.toList.foldl (fun (x : BT × Nat) o => (x.1.ins x.2 o, x.2 + 1)) (BT.nil, 0)).1
noncomputable def bootS (n : Nat) (w : World) (os : OsState) : SharedT := ⟨bootT w.params, n, (boot_heap w.params).life, Array.mk [], boot_drawn, boot_toks, os⟩

noncomputable def lookT (p q : Program) (lo : List Str) (Xt : Shared → Bool) (w : World) (s : Shared) :=
  ((staticsOk (importedModules p.main.body) (boot_heap w.params) s.heap && namesBound p s.heap && gensDone s && laidKept (boot_heap w.params) s.heap), openSeen q lo (importedModules p.main.body) Xt true s)

theorem left_once {p q : Program} {lo : List Str} {Xt : Shared → Bool} {β : Type} {Yf : Shared → β} {Ya : World → β} {N M n : Nat} {an : Option Value} (row : String)
    (e : opening p = plainProg p.main.scope.names) (h6 : Nat.ble 600 N = true) (fe : ∀ s, fenceModules? p s = some s)
    (tr : ∀ P, absHeap (bootT P) n (boot_heap P).life = boot_heap P)
    (sz : ∀ P, ((boot_heap P).isNs mainGlobals, (boot_heap P).objs.size, (boot_heap P).nsMap mainGlobals "__annotations__") = (true, n, an))
    (le : Nat.ble M N = true)
    (run0 : ∀ (w : World) (os : OsState), (runT p (w.withFollow row false) n an M (bootS n (w.withFollow row false) os)).map (fun s => (lookT p q lo Xt (w.withFollow row false) s.abs, Yf s.abs)) = some ((true, openGood q lo), Ya (w.withFollow row false)))
    (run1 : ∀ (w : World) (os : OsState), (runT p (w.withFollow row true) n an M (bootS n (w.withFollow row true) os)).map (fun s => (lookT p q lo Xt (w.withFollow row true) s.abs, Yf s.abs)) = some ((true, openGood q lo), Ya (w.withFollow row true))) :
    LeftO p q lo Xt Yf Ya N true := byRow2 row (P := fun w => (openEnds treeTable p w N).map (fun s => (openSeen q lo (importedModules p.main.body) Xt true s, Yf s)) = some (openGood q lo, Ya w)) (fun w => one _ (run0 w)) (fun w => one _ (run1 w))
  where
  one (w : World) (run : ∀ os : OsState, (runT p w n an M (bootS n w os)).map (fun s => (lookT p q lo Xt w s.abs, Yf s.abs)) = some ((true, openGood q lo), Ya w)) :
      (openEnds treeTable p w N).map (fun s => (openSeen q lo (importedModules p.main.body) Xt true s, Yf s)) = some (openGood q lo, Ya w) := by
    obtain ⟨⟨h, gs, d, k, os⟩, a1, a2⟩ := Option.map_eq_some_iff.mp (boot_open e h6 fe w)
    simp only [Prod.mk.injEq] at a2
    obtain ⟨rfl, rfl, rfl, rfl⟩ := a2
    obtain ⟨b, b1, b2⟩ := Option.map_eq_some_iff.mp (run os)
    simp only [Prod.mk.injEq, lookT] at b2
    obtain ⟨⟨l1, l2⟩, l3⟩ := b2
    have r : topRun treeTable p w n an M ⟨boot_heap w.params, Array.mk [], boot_drawn, boot_toks, os⟩ (topStub p) = some b.abs := by
      have := runG_top _ _ _ _ b1
      rw [← tr w.params]
      exact this
    have r := topRun_mono (N - M) _ _ _ _ r
    rw [show M + (N - M) = N by have := Nat.le_of_ble_eq_true le; omega] at r
    have z := sz w.params
    simp only [Prod.mk.injEq] at z
    obtain ⟨z1, z2, z3⟩ := z
    have t : topFrom treeTable p w N ⟨boot_heap w.params, Array.mk [], boot_drawn, boot_toks, os⟩ = some b.abs := by
      unfold topFrom
      dsimp only
      rw [z1, z2, z3, r]
      show (match staticsOk (importedModules p.main.body) (boot_heap w.params) b.abs.heap && namesBound p b.abs.heap && gensDone b.abs && laidKept (boot_heap w.params) b.abs.heap with | true => some b.abs | false => none) = _
      rw [l1]
    unfold openEnds
    rw [a1]
    show (topFrom treeTable p w N _).map _ = _
    rw [t]
    exact congrArg some (Prod.ext l2 l3)
theorem runT_self : Tw.runT = Tw.runT := rfl
theorem lookT_self : @Tw.lookT = @Tw.lookT := rfl
end Tw
lay_quick Tw.runT Tw.lookT
name_quick runQ for Tw.runT by Tw.runT_self
name_quick lookQ for Tw.lookT by Tw.lookT_self
namespace Tw
open PySem PySem.Calls PySem.W PyProof.Rows
theorem boot_tree (P : Params) : absHeap (bootT P) 11 (boot_heap P).life = boot_heap P := by kernel_rfl
theorem boot_size (P : Params) : ((boot_heap P).isNs mainGlobals, (boot_heap P).objs.size, (boot_heap P).nsMap mainGlobals "__annotations__") = (true, 11, some (.ref 6)) := by kernel_rfl
/-- the top's run in one go, one way of the world's row: what is seen behind it -/
def RunOk (r : OpenRow) (q : Program) (lo : List Str) (lv : List (Str × WData)) (H : Hook) (N : Nat) (row : String) (b : Bool) : Prop :=
  ∀ (w : World) (os : OsState), (Fast.runQ r.prog (w.withFollow row b) 11 (some (.ref 6)) N (bootS 11 (w.withFollow row b) os)).map (fun s => (Fast.lookQ r.prog q lo (fun s => xlAt q lv s && recOk r.records s) (w.withFollow row b) s.abs, H.obs s.abs)) = some ((true, openGood q lo), H.val (w.withFollow row b))
/-- the top in one go, then the call: the law holds -/
theorem holds_once {r : OpenRow} {q : Program} {lo : List Str} {lv : List (Str × WData)} {d : DefRec} {kwd : List (Str × Expr)} {N : Nat} {H : Hook} {row : String} (run0 : RunOk r q lo lv H N row false) (run1 : RunOk r q lo lv H N row true)
    (e : opening r.prog = plainProg r.prog.main.scope.names) (fe : ∀ s, fenceModules? r.prog s = some s) (h6 : Nat.ble 600 N = true)
    (hd : defOf q r.name = some (d, kwd)) (hp : r.prog.theDef r.name = some (d.params, d.body, d.scope)) (hk : kwWritten? d.params.kwonlyargs d.params.kw_defaults = some kwd) (hwr : (!r.writes || r.records.isEmpty) = true)
    (k1 : r.wellSaid = true) (ok : (chainsOk q && opensWell r.prog && (frees r.toRowW && r.within.isEmpty)) = true) (hb : r.prog.bare) (hw : r.toRowW.promised) (hc : WalkO q lo (XL q lv) H.says r.toRowW d kwd fun f vs => PySem.call f vs) : r.Holds :=
  holds_open (Xt := fun s => xlAt q lv s && recOk r.records s) (N := N)
    (left_once (M := N) row e h6 fe boot_tree boot_size (Nat.ble_eq.mpr (Nat.le_refl N)) (by rw [Fast.runQ_eq, Fast.lookQ_eq]; exact run0) (by rw [Fast.runQ_eq, Fast.lookQ_eq]; exact run1))
    H.of H.keeps (fun s z => xl_of s (Bool.and_eq_true_iff.mp z).1) XL.keeps hd hp hk (fun s z => recFacts_of (Bool.and_eq_true_iff.mp z).2) hwr k1 ok hb hw hc
end Tw

set_option Elab.async false
set_option maxRecDepth 100000
/-! the top -/
section
open PySem PySem.W
set_option maxHeartbeats 0
local macro_rules | `(tactic| o_head $_) => `(tactic| assumption)
theorem Tw.pre : PySem.Challenge.rw_twinwires_k82_texts_of_no_work.row.Holds → PySem.Challenge.rw_twinwires_k82_texts_of_no_work.row.Holds := by
  intro _
  k_head
noncomputable def Tw.vw : Program := PySem.W.view PySem.Challenge.pw_twinwires_k82_texts_of_no_work [0, 2, 3, 4, 5, 7, 8, 9, 10, 11, 13, 14, 15, 16, 17, 18, 19, 20, 22, 23, 24, 25, 26, 27, 28, 29, 30, 31, 32, 34, 35, 37, 38, 39, 40, 41, 42, 43, 44, 45, 47, 48, 49, 50, 51, 52, 53, 54, 55, 56, 57, 58]
noncomputable def Tw.hk : PySem.W.Hook := PySem.W.kHook Tw.pre.heap_1 [2, 3, 15, 17, 18, 20, 21, 22, 24, 25, 27, 28, 29, 31, 32, 34, 35, 36, 38, 39, 41, 42, 43, 50, 51, 52, 53, 56, 63, 64, 65, 68, 75, 76, 77, 80, 87, 88, 89, 92, 99, 100, 101, 104, 106, 107, 109, 110, 111, 114, 115, 116, 118, 119, 121, 122, 123, 125, 126, 128, 129, 130, 138, 140, 141, 143, 144, 145, 147, 148, 150, 151, 152, 154, 155, 157, 158, 159, 161, 162, 164, 165, 166, 167, 168, 169, 170, 173, 180, 182, 183, 185, 186, 187, 189, 190, 192, 193, 194, 196, 197, 199, 200, 201, 202, 203, 206, 213, 215, 216, 218, 219, 220, 222, 223, 225, 226, 227, 229, 230, 232, 233, 234, 235, 236, 239, 246, 248, 249, 251, 252, 253, 255, 256, 258, 259, 260, 262, 263, 265, 266, 267, 268, 269, 272, 279, 281, 282, 284, 285, 286, 288, 289, 291, 292, 293, 295, 296, 298, 299, 300, 301, 302, 305, 312, 314, 315, 317, 318, 319, 321, 322, 324, 325, 326, 328, 329, 331, 332, 333, 334, 335, 338, 345, 347, 348, 350, 351, 352, 354, 355, 357, 358, 359, 361, 362, 364, 365, 366, 367, 368, 371, 373, 374, 376, 377, 378, 380, 381, 383, 384, 385, 388, 389, 390, 392, 393, 395, 396, 397, 399, 400, 402, 403, 404, 407, 408, 409, 412, 413, 414, 417, 418, 419, 421, 422, 424, 425, 426, 429, 430, 431, 434, 435, 436, 438, 439, 441, 442, 443, 445, 446, 448, 449, 450, 452, 453, 455, 456, 457, 459, 460, 462, 463, 464, 466, 467, 469, 470, 471, 473, 474, 476, 477, 478, 481, 482, 483, 485, 486, 488, 489, 490, 492, 493, 495, 496, 497, 500, 501, 502, 505, 506, 507, 509, 510, 512, 513, 514, 517, 518] (fun _ => by kernel_rfl)
theorem Tw.run0 : Tw.RunOk PySem.Challenge.rw_twinwires_k82_texts_of_no_work.row Tw.vw ["WIRES_BEHIND"] [] Tw.hk 8870 "special-get-raises" false := fun w os => by kernel_rfl
theorem Tw.run1 : Tw.RunOk PySem.Challenge.rw_twinwires_k82_texts_of_no_work.row Tw.vw ["WIRES_BEHIND"] [] Tw.hk 8870 "special-get-raises" true := fun w os => by kernel_rfl
end
/-! the top ends -/

-- CHANGE: your row's module here, as the last of these rows
set_option Elab.async false
set_option linter.all false
set_option maxRecDepth 100000
/-! THE HAND LAYER, for ints, bools, texts, own classes, LISTS and tuples (index, slices, in, append, pop ..), calls, loops. Paste it whole ahead of your own text; what your proof does not reach may be deleted. -/
namespace L2
open PySem PySem.Spec PyProof.Rows

/-- a key: an int or a str -/
abbrev Key := Sum Int Str
def keyIs : Key → Value → Bool
  | .inl k, v => Value.isInt k v
  | .inr x, v => Value.isStrOf x v
def keyH (w : World) : Key → Int
  | .inl k => hashInt k
  | .inr x => hashStr w x
theorem keyIs_shape : ∀ {k : Key} {v : Value}, keyIs k v = true → (∃ i t, k = Sum.inl i ∧ v = Value.int i t) ∨ (∃ x t, k = Sum.inr x ∧ v = Value.str x t)
  | .inl i, v, h => by
    obtain ⟨t, e⟩ := Value.isInt_shape (k := i) (v := v) h
    exact .inl ⟨i, t, rfl, e⟩
  | .inr x, v, h => by
    obtain ⟨t, e⟩ := Value.isStrOf_shape (x := x) (v := v) h
    exact .inr ⟨x, t, rfl, e⟩
theorem key_ll (a b : Int) : decide ((Sum.inl a : Key) = Sum.inl b) = (a == b) := by
  by_cases e : a = b
  · subst e; simp
  · have h : ¬ (Sum.inl a : Key) = Sum.inl b := fun q => e (Sum.inl.inj q)
    rw [decide_eq_false h]
    exact (beq_eq_false_iff_ne.mpr e).symm
theorem key_rr (a b : Str) : decide ((Sum.inr a : Key) = Sum.inr b) = decide (a = b) := by
  by_cases e : a = b
  · subst e; simp
  · have h : ¬ (Sum.inr a : Key) = Sum.inr b := fun q => e (Sum.inr.inj q)
    rw [decide_eq_false h, decide_eq_false e]
theorem key_lr (a : Int) (b : Str) : decide ((Sum.inl a : Key) = Sum.inr b) = false := decide_eq_false (fun q => nomatch q)
theorem key_rl (a : Str) (b : Int) : decide ((Sum.inr a : Key) = Sum.inl b) = false := decide_eq_false (fun q => nomatch q)

def mixKind (prog : Program) (w : World) : PySem.KeyKind prog w Key where
  is := keyIs
  hash := keyH w
  inj := fun v a b ha hb => by
    rcases keyIs_shape ha with ⟨i, t, rfl, rfl⟩ | ⟨x, t, rfl, rfl⟩
    · rcases keyIs_shape hb with ⟨j, u, rfl, e⟩ | ⟨y, u, rfl, e⟩
      · injection e with e1 _; rw [e1]
      · exact nomatch e
    · rcases keyIs_shape hb with ⟨j, u, rfl, e⟩ | ⟨y, u, rfl, e⟩
      · exact nomatch e
      · injection e with e1 _; rw [e1]
  byValue := fun k v h => by
    rcases keyIs_shape h with ⟨i, t, rfl, rfl⟩ | ⟨x, t, rfl, rfl⟩ <;> rfl
  pyHash := fun hv h => by
    rcases keyIs_shape hv with ⟨i, t, rfl, rfl⟩ | ⟨x, t, rfl, rfl⟩
    · exact wpAny_pyHash_int h
    · exact wpAny_pyHash_str h
  eqBool := fun hu hv h => by
    rcases keyIs_shape hu with ⟨i, t, rfl, rfl⟩ | ⟨x, t, rfl, rfl⟩
    · rcases keyIs_shape hv with ⟨j, u, rfl, rfl⟩ | ⟨y, u, rfl, rfl⟩
      · rw [key_ll] at h; exact wpAny_eqBool_int h
      · rw [key_lr] at h; exact SeqAt.EqAt.int_str i t y u _ _ _ _ h
    · rcases keyIs_shape hv with ⟨j, u, rfl, rfl⟩ | ⟨y, u, rfl, rfl⟩
      · rw [key_rl] at h; exact SeqAt.EqAt.str_int x t j u _ _ _ _ h
      · rw [key_rr] at h; exact wpAny_eqBool_str h
  «strs» := fun k x t v h => by
    rcases keyIs_shape h with ⟨i, u, rfl, e⟩ | ⟨y, u, rfl, e⟩
    · exact nomatch e
    · injection e with e1 _
      subst e1
      cases v <;> rfl

end L2

namespace L2
open PySem PySem.Spec PyProof.Rows

/-- a value, without the heap -/
inductive V where
  | non | bl (b : Bool) | int (i : Int) | str (x : Str) | byt (b : Array UInt8) | flt (b : UInt64) | ref (a : Addr) | ty (n : String)
  deriving DecidableEq

def RelV : V → Value → Prop
  | .non, u => u = Value.none
  | .bl b, u => u = Value.bool b
  | .int i, u => ∃ t, u = Value.int i t
  | .str x, u => ∃ t, u = Value.str x t
  | .byt b, u => ∃ t, u = Value.bytes b t
  | .flt b, u => ∃ t, u = Value.float b t
  | .ref a, u => u = Value.ref a
  | .ty n, u => u = Value.type n

abbrev Vals : List V → List Value → Prop := Paired RelV
theorem Vals.length {xs : List V} {us : List Value} (r : Vals xs us) : xs.length = us.length := Paired.length r
theorem Vals.get : ∀ {xs : List V} {us : List Value} {i : Nat} {x : V}, Vals xs us → xs[i]? = some x → ∃ u, us[i]? = some u ∧ RelV x u
  | _, _, _, _, .nil, e => by simp at e
  | _, _, 0, _, .cons r _, e => by simp at e; subst e; exact ⟨_, rfl, r⟩
  | _, _, i + 1, x, .cons _ t, e => by
    obtain ⟨u, h1, h2⟩ := Vals.get (i := i) (x := x) t (by simpa using e)
    exact ⟨u, by simpa using h1, h2⟩
theorem Vals.append : ∀ {xs ys : List V} {us ws : List Value}, Vals xs us → Vals ys ws → Vals (xs ++ ys) (us ++ ws)
  | _, _, _, _, .nil, s => s
  | _, _, _, _, .cons r t, s => .cons r (Vals.append t s)
theorem Vals.take : ∀ {xs : List V} {us : List Value} (n : Nat), Vals xs us → Vals (xs.take n) (us.take n)
  | _, _, 0, _ => .nil
  | _, _, _ + 1, .nil => .nil
  | _, _, n + 1, .cons r t => .cons r (Vals.take n t)
theorem Vals.drop : ∀ {xs : List V} {us : List Value} (n : Nat), Vals xs us → Vals (xs.drop n) (us.drop n)
  | _, _, 0, r => r
  | _, _, _ + 1, .nil => .nil
  | _, _, n + 1, .cons _ t => Vals.drop n t
def RelO : Option V → Option Value → Prop
  | some v, some u => RelV v u
  | none, none => True
  | _, _ => False
def KV {κ : Type} : List (κ × V) → List (κ × Value) → Prop := Paired fun (p : κ × V) (q : κ × Value) => p.1 = q.1 ∧ RelV p.2 q.2

/-- a key of a dict (00_mix): an int or a text -/
def kV : Key → V
  | .inl i => .int i
  | .inr x => .str x

/-- what stands at a tracked address -/
inductive HO where
  /-- a list -/
  | lst (xs : List V)
  /-- a tuple (never changes) -/
  | tup (xs : List V)
  /-- a dict whose keys are ints and texts; one whose keys are tuples of ints and texts (the empty one is both) -/
  | dK (kvs : List (Key × V)) | dT (kvs : List (List Key × V))
  /-- a set of ints: its members, its size -/
  | set (S : Int → Bool) (n : Nat)
  /-- an instance of the class at C, its dict at dx, its attributes -/
  | ins (C dx : Addr) (fs : List (Str × V))
  /-- the dict of the instance at x -/
  | own (x : Addr)
  /-- the dict of an exception -/
  | xd (fs : List (Str × V))
  /-- a bound method, f of x -/
  | met (f x : Addr)
  /-- a range object lo, lo + 1, .. below hi -/
  | rng (lo hi : Int)
  /-- a thing that is known to the object (the script; a dict while a loop walks it): read, never written while it is so -/
  | frz (o : Obj) (u : HO)
  /-- a code object's table -/
  | tbl (ps : Array Value)
  /-- any other thing, by what is true of its one object (a def of one's own: SetO a S n := HO.ext fun h => ..) -/
  | ext (φ : Heap → Prop)

abbrev Hp := Addr → Option HO
def upd (H : Hp) (a : Addr) (o : HO) : Hp := fun b => if b = a then some o else H b
theorem upd_same {H : Hp} {a : Addr} {o : HO} : upd H a o a = some o := by unfold upd; rw [if_pos rfl]
theorem upd_ne {H : Hp} {a b : Addr} {o : HO} (h : b ≠ a) : upd H a o b = H b := by unfold upd; rw [if_neg h]
theorem upd_upd {H : Hp} {a : Addr} {o u : HO} : upd (upd H a o) a u = upd H a u := by
  funext b; unfold upd; split <;> rfl
theorem ne_of_none {H : Hp} {a b : Addr} {o : HO} (h : H a = some o) (h' : H b = none) : a ≠ b := by
  intro e; subst e; rw [h] at h'; cases h'

section
variable (P : Program) (w : World)
def ObjOk (H : Hp) (h : Heap) (a : Addr) : HO → Prop
  | .lst xs => xs.length ≤ sizeLine ∧ ∃ (its : List Value) (n : Nat), Vals xs its ∧ h.get? a = some { cls := .type "list", data := .seq its.toArray n }
  | .tup xs => xs.length ≤ sizeLine ∧ ∃ its : List Value, Vals xs its ∧ IsTup h a its.toArray
  | .dK kvs => kvs.length ≤ sizeLine ∧ (a == sysModules) = false ∧ ∃ vs, KV kvs vs ∧ h.DictOf (mixKind P w) a vs
  | .dT kvs => kvs.length ≤ sizeLine ∧ (a == sysModules) = false ∧ ∃ xs : List (List Key × Addr × Value),
      Paired (fun (p : List Key × V) (q : List Key × Addr × Value) => p.1 = q.1 ∧ H q.2.1 = some (.tup (p.1.map kV)) ∧ RelV p.2 q.2.2) kvs xs ∧
      ∃ o es ep, h.get? a = some o ∧ o.ExactDict ∧ o.data = .dict es ep ∧ es.toList = xs.map (entryOfKey (tupleKind (mixKind P w))) ∧ (xs.map (·.1)).Nodup
  | .set S n => h.SetOf (intKind P w) a S n
  | .ins C dx fs => H dx = some (.own a) ∧ fs.length ≤ 1000 ∧ dx ≠ a ∧ h.get? a = some (PySem.W.instObj C dx) ∧
      ∃ mA, h.Ns1 dx mA ∧ (∀ f, RelO (fs.lookup f) (mA f)) ∧ PySem.Within mA (fs.map (·.1))
  | .own _ => ∃ o, h.get? a = some o
  | .xd fs => ∃ mA, h.Ns1 a mA ∧ ∀ f, RelO (fs.lookup f) (mA f)
  | .rng lo hi => ∃ t u v, h.get? a = some { cls := .type "range", data := .fields #[.int lo t, .int hi u, .int 1 v] }
  | .frz o u => h.get? a = some o ∧ ObjOk H h a u
  | .tbl ps => h.get? a = some { cls := .none, data := .fields ps }
  | .met f x => h.get? a = some (PySem.W.methodObj (.ref f) (.ref x))
  | .ext φ => φ h ∧ (∃ o, h.get? a = some o) ∧ ∀ h1 h2 : Heap, φ h1 → (∀ o, h1.get? a = some o → h2.get? a = some o) → φ h2
/-- the abstract heap is held -/
def HOk (H : Hp) (h : Heap) : Prop := ∀ a o, H a = some o → ObjOk P w H h a o
end

section
variable {P : Program} {w : World} {H H' : Hp} {h h' : Heap} {a : Addr} {o : HO}
theorem ObjOk.lt (x : ObjOk P w H h a o) : a < h.objs.size := by
  cases o with
  | lst xs => obtain ⟨_, _, _, _, e⟩ := x; exact Heap.lt_size e
  | tup xs => obtain ⟨_, _, _, p⟩ := x; exact p.lt
  | dK kvs => obtain ⟨_, _, _, _, o, _, _, e, _⟩ := x; exact Heap.lt_size e
  | dT kvs => obtain ⟨_, _, _, _, o, _, _, e, _⟩ := x; exact Heap.lt_size e
  | set S n => obtain ⟨o, _, _, _, e, _⟩ := x; exact Heap.lt_size e
  | ins C dx fs => obtain ⟨_, _, _, e, _⟩ := x; exact Heap.lt_size e
  | own y => obtain ⟨_, e⟩ := x; exact Heap.lt_size e
  | xd fs => obtain ⟨_, ⟨_, _, _, e, _⟩, _⟩ := x; exact Heap.lt_size e
  | rng lo hi => obtain ⟨_, _, _, e⟩ := x; exact Heap.lt_size e
  | frz ob u => obtain ⟨e, _⟩ := x; exact Heap.lt_size e
  | tbl ps => exact Heap.lt_size (show h.get? a = some _ from x)
  | met f y => exact Heap.lt_size (show h.get? a = some _ from x)
  | ext φ => obtain ⟨_, ⟨_, e⟩, _⟩ := x; exact Heap.lt_size e
theorem Paired.mapP {α β : Type} {F G : α → β → Prop} : ∀ {l₁ : List α} {l₂ : List β}, Paired F l₁ l₂ → (∀ a b, F a b → G a b) → Paired G l₁ l₂
  | _, _, .nil, _ => .nil
  | _, _, .cons r t, f => .cons (f _ _ r) (Paired.mapP t f)
/-- what an object's description leans on: its own object, its own dict, the tuples -/
theorem ObjOk.stay (x : ObjOk P w H h a o) (k : ∀ b u, (b = a ∨ H b = some (.own a)) → h.get? b = some u → h'.get? b = some u)
    (ho : ∀ b, H b = some (.own a) → H' b = some (.own a)) (ht : ∀ b xs, H b = some (.tup xs) → H' b = some (.tup xs)) : ObjOk P w H' h' a o := by
  induction o with
  | lst xs => obtain ⟨z, its, n, r, e⟩ := x; exact ⟨z, its, n, r, k _ _ (.inl rfl) e⟩
  | tup xs => obtain ⟨z, its, r, ob, e, c⟩ := x; exact ⟨z, its, r, ob, k _ _ (.inl rfl) e, c⟩
  | dK kvs => obtain ⟨z, y, vs, r, ob, es, ep, e, c⟩ := x; exact ⟨z, y, vs, r, ob, es, ep, k _ _ (.inl rfl) e, c⟩
  | dT kvs =>
    obtain ⟨z, y, xs, r, ob, es, ep, e, c⟩ := x
    exact ⟨z, y, xs, Paired.mapP r fun p q z => ⟨z.1, ht _ _ z.2.1, z.2.2⟩, ob, es, ep, k _ _ (.inl rfl) e, c⟩
  | set S n => obtain ⟨ob, es, ep, t, e, c⟩ := x; exact ⟨ob, es, ep, t, k _ _ (.inl rfl) e, c⟩
  | ins C dx fs =>
    obtain ⟨d, z, ne, e, mA, ⟨od, es, ep, e2, c⟩, r⟩ := x
    exact ⟨ho _ d, z, ne, k _ _ (.inl rfl) e, mA, ⟨od, es, ep, k _ _ (.inr d) e2, c⟩, r⟩
  | own y => obtain ⟨ob, e⟩ := x; exact ⟨ob, k _ _ (.inl rfl) e⟩
  | xd fs => obtain ⟨mA, ⟨od, es, ep, e, c⟩, r⟩ := x; exact ⟨mA, ⟨od, es, ep, k _ _ (.inl rfl) e, c⟩, r⟩
  | rng lo hi => obtain ⟨t, u, v, e⟩ := x; exact ⟨t, u, v, k _ _ (.inl rfl) e⟩
  | frz ob u ih => obtain ⟨e, q⟩ := x; exact ⟨k _ _ (.inl rfl) e, ih q⟩
  | tbl ps =>
    have e : h.get? a = some { cls := .none, data := .fields ps } := x
    show h'.get? a = some { cls := .none, data := .fields ps }
    exact k a _ (.inl rfl) e
  | met f y =>
    have e : h.get? a = some (PySem.W.methodObj (.ref f) (.ref y)) := x
    show h'.get? a = some (PySem.W.methodObj (.ref f) (.ref y))
    exact k a _ (.inl rfl) e
  | ext φ => obtain ⟨p, ⟨o, e⟩, st⟩ := x; exact ⟨st _ _ p fun o q => k _ _ (.inl rfl) q, ⟨o, k _ _ (.inl rfl) e⟩, st⟩
theorem HOk.lt (x : HOk P w H h) (e : H a = some o) : a < h.objs.size := (x a o e).lt
theorem HOk.fresh (x : HOk P w H h) (e : h.objs.size ≤ a) : H a = none := by
  cases q : H a with
  | none => rfl
  | some u => exact absurd (Nat.lt_of_lt_of_le (x.lt q) e) (Nat.lt_irrefl _)
/-- every object of the heap is kept -/
theorem HOk.kept (x : HOk P w H h) (k : ∀ b u, h.get? b = some u → h'.get? b = some u) : HOk P w H h' := fun a o e =>
  (x a o e).stay (fun b u _ q => k b u q) (fun _ q => q) fun _ _ q => q
/-- a new object is laid and tracked -/
theorem HOk.laid (x : HOk P w H h) (k : ∀ b u, h.get? b = some u → h'.get? b = some u) (hp : h.objs.size ≤ a) (new : ObjOk P w (upd H a o) h' a o) : HOk P w (upd H a o) h' := fun b u e => by
  have hn := x.fresh hp
  by_cases hb : b = a
  · subst hb; rw [upd_same] at e; cases e; exact new
  · rw [upd_ne hb] at e
    exact (x b u e).stay (fun c v _ q => k c v q) (fun c q => by rw [upd_ne (ne_of_none q hn)]; exact q) fun c xs q => by rw [upd_ne (ne_of_none q hn)]; exact q
end

/-- what may be read as u: it is u, or a known u -/
def Rd (H : Hp) (a : Addr) (u : HO) : Prop := H a = some u ∨ ∃ o, H a = some (.frz o u)
theorem Rd.ok {P : Program} {w : World} {H : Hp} {h : Heap} {a : Addr} {u : HO} (r : Rd H a u) (x : HOk P w H h) : ObjOk P w H h a u := by
  rcases r with r | ⟨o, r⟩
  · exact x a u r
  · obtain ⟨_, q⟩ := x a _ r
    exact q
/-- what may be written -/
def Mut : Option HO → Prop
  | some (.lst _) => True
  | some (.dK _) => True
  | some (.dT _) => True
  | some (.set _ _) => True
  | some (.ins _ _ _) => True
  | some (.ext _) => True
  | _ => False
section
variable {P : Program} {w : World} {H : Hp} {h h' : Heap} {x e : Addr} {o' : HO}
/-- the object at e is changed: x itself, or the dict of the instance x -/
theorem HOk.write (ok : HOk P w H h) (mu : Mut (H x)) (he : e = x ∨ H e = some (.own x)) (k : ∀ b u, b ≠ e → h.get? b = some u → h'.get? b = some u) (heo : ∃ u, h'.get? e = some u)
    (new : ObjOk P w (upd H x o') h' x o') : HOk P w (upd H x o') h' := fun b u q => by
  have nown : ∀ c y, H c = some (.own y) → c ≠ x := fun c y r z => by subst z; rw [r] at mu; exact mu
  have ntup : ∀ c xs, H c = some (.tup xs) → c ≠ x := fun c xs r z => by subst z; rw [r] at mu; exact mu
  by_cases hb : b = x
  · subst hb; rw [upd_same] at q; cases q; exact new
  · rw [upd_ne hb] at q
    by_cases hbe : b = e
    · have q' : H b = some (.own x) := by
        rcases he with z | z
        · exact absurd (hbe.trans z) hb
        · rw [hbe]; exact z
      rw [q] at q'; cases q'
      obtain ⟨v, hv⟩ := heo
      exact ⟨v, by rw [hbe]; exact hv⟩
    · refine (ok b u q).stay (fun c v hc r => k c v ?_ r) (fun c r => by rw [upd_ne (nown c b r)]; exact r) fun c xs r => by rw [upd_ne (ntup c xs r)]; exact r
      rcases hc with rfl | hc
      · exact hbe
      · rintro rfl
        rcases he with z | z
        · exact nown c b hc z
        · rw [hc] at z; cases z; exact hb rfl
end

/-! ### kept unless tracked; of the frames at fs (the callers') the slots may change (an exception that passes writes there); of the records at ex (iterators) nothing is said -/
structure Un (fs ex : List Addr) (H H' : Hp) (h h' : Heap) : Prop where
  keep : ∀ b o, h.get? b = some o → H b = none → b ∉ fs → b ∉ ex → h'.get? b = some o
  slot : ∀ b o, h.get? b = some o → H b = none → b ∈ fs → b ∉ ex → ∃ sl, h'.get? b = some { o with slots := sl }
  free : ∀ b o, h.get? b = some o → H b = none → b ∉ ex → H' b = none
  there : ∀ b o, h.get? b = some o → b ∉ ex → ∃ o', h'.get? b = some o'
  tups : ∀ b xs, H b = some (.tup xs) → H' b = some (.tup xs)
  frzs : ∀ b o u, H b = some (.frz o u) → H' b = some (.frz o u)
  tbls : ∀ b ps, H b = some (.tbl ps) → ∃ more, H' b = some (.tbl (ps ++ more))
section
variable {fs fs' ex ex' : List Addr} {H H1 H2 : Hp} {h h1 h2 h' : Heap} {a x e : Addr} {o : HO}
theorem Un.any (u : Un fs ex H H1 h h1) {b : Addr} {ob : Obj} (q : h.get? b = some ob) (n : H b = none) (hx : b ∉ ex) : ∃ sl, h1.get? b = some { ob with slots := sl } := by
  by_cases hb : b ∈ fs
  · exact u.slot b ob q n hb hx
  · exact ⟨ob.slots, u.keep b ob q n hb hx⟩
theorem Un.kept (k : ∀ b u, h.get? b = some u → h'.get? b = some u) : Un fs ex H H h h' :=
  ⟨fun b ob q _ _ _ => k b ob q, fun b ob q _ _ _ => ⟨ob.slots, k b ob q⟩, fun _ _ _ n _ => n, fun b ob q _ => ⟨ob, k b ob q⟩, fun _ _ q => q, fun _ _ _ q => q, fun _ ps q => ⟨#[], by rw [q]; simp⟩⟩
theorem Un.refl : Un fs ex H H h h := Un.kept fun _ _ q => q
theorem Un.laid (k : ∀ b u, h.get? b = some u → h'.get? b = some u) (hp : h.objs.size ≤ a) (hn : H a = none) : Un fs ex H (upd H a o) h h' where
  keep := fun b u q _ _ _ => k b u q
  slot := fun b u q _ _ _ => ⟨u.slots, k b u q⟩
  free := fun b u q n _ => by rw [upd_ne (Nat.ne_of_lt (Nat.lt_of_lt_of_le (Heap.lt_size q) hp))]; exact n
  there := fun b u q _ => ⟨u, k b u q⟩
  tups := fun b xs q => by rw [upd_ne (ne_of_none q hn)]; exact q
  frzs := fun b u xs q => by rw [upd_ne (ne_of_none q hn)]; exact q
  tbls := fun b ps q => ⟨#[], by rw [upd_ne (ne_of_none q hn), q]; simp⟩
theorem Un.write (mu : Mut (H x)) (he : e = x ∨ H e = some (.own x)) (k : ∀ b u, b ≠ e → h.get? b = some u → h'.get? b = some u) (heo : ∃ u, h'.get? e = some u) : Un fs ex H (upd H x o) h h' := by
  have hx : ∀ b, H b = none → b ≠ x := fun b n z => by subst z; rw [n] at mu; exact mu
  have hb : ∀ b, H b = none → b ≠ e := fun b n z => by
    subst z
    rcases he with r | r
    · exact hx b n r
    · rw [n] at r; cases r
  have hm : ∀ b u, H b = some u → ¬ Mut (some u) → b ≠ x := fun b u q nm z => by subst z; rw [q] at mu; exact nm mu
  refine ⟨fun b u q n _ _ => k b u (hb b n) q, fun b u q n _ _ => ⟨u.slots, k b u (hb b n) q⟩, fun b u q n _ => by rw [upd_ne (hx b n)]; exact n, fun b u q _ => ?_,
    fun b xs q => by rw [upd_ne (hm b _ q fun z => z)]; exact q, fun b u xs q => by rw [upd_ne (hm b _ q fun z => z)]; exact q, fun b ps q => ⟨#[], by rw [upd_ne (hm b _ q fun z => z), q]; simp⟩⟩
  by_cases hbe : b = e
  · subst hbe; exact heo
  · exact ⟨u, k b u hbe q⟩
end

/-! ### the heap without what is tracked -/
def trk (h : Heap) (H : Hp) : List Addr := (List.range h.objs.size).filter fun a => (H a).isSome
def hidT (h : Heap) (H : Hp) : Heap := PySem.W.hideAll h (trk h H)
theorem hidT_size (h : Heap) (H : Hp) : (hidT h H).objs.size = h.objs.size := PySem.W.hideAll_size _ _
theorem hidT_get {h : Heap} {H : Hp} {b : Addr} {o : Obj} (e : h.get? b = some o) (n : H b = none) : (hidT h H).get? b = some o :=
  PySem.W.hideAll_get _ e fun hm => by
    have q : (H b).isSome = true := (List.mem_filter.mp hm).2
    rw [n] at q; simp at q
theorem of_hidT {h : Heap} {H : Hp} {b : Addr} {o : Obj} (e : (hidT h H).get? b = some o) : h.get? b = some o ∧ H b = none := by
  have e' : h.get? b = some o := PySem.W.of_hideAll (trk h H) e
  refine ⟨e', ?_⟩
  cases q : H b with
  | none => rfl
  | some x =>
    have hm : b ∈ trk h H := List.mem_filter.mpr ⟨List.mem_range.mpr (Heap.lt_size e'), by simp [q]⟩
    have z : (hidT h H).get? b = none := PySem.W.hideAll_none (trk h H) hm
    rw [z] at e; cases e

/-! ### OpenK's ledger, filled with every new object but one -/
def allNews (g h : Heap) (L : Addr) : List (Addr × Obj) := (List.range h.objs.size).filterMap fun a => if a = L ∨ (g.get? a).isSome = true then none else (h.get? a).map fun o => (a, o)
def rest (g h : Heap) (L d : Addr) : List (Addr × Obj) := (allNews g h L).filter fun p => decide (p.1 ≠ d)
end L2

namespace L2
open PySem PySem.Spec PyProof.Rows

/-- the module's facts, over the base: the heap at the law's entry without what is tracked there -/
structure Mod (K : PySem.W.Frag) (mg : Str → Option Value) (base : Heap) : Prop where
  kin : K.In base
  glob : base.Ns mainGlobals mg
  blt : ∃ mb, base.Ns builtinsNs mb ∧ ∀ x : Str, x ≠ "__name__" → mb x = bootBuiltins x
  nolimit : base.NoLimit

/-- the context: a def's body (or a comprehension's block) running. base: fixed through the whole law; s₀, H₀: the entry; outer: the frames whose slots others may change (a def's callers); stack: all frames that run;
   ex: iterators that were made ahead of the entry and are walked here (a comprehension's); fn: the names whose cells were made at the entry (a def: all; a comprehension's block: its own); calm: not within an except suite; pn: pins that every state bears; xe: what is wanted of an exception that leaves the code -/
structure Cx where
  prog : Program
  w : World
  K : PySem.W.Frag
  mg : Str → Option Value
  base : Heap
  A : Around
  N : List Str
  s₀ : Shared
  H₀ : Hp
  env : Env
  outer : List Env
  stack : List Env
  ex : List Addr
  fn : Str → Bool
  calm : Bool
  pn : List (Addr × Obj)
  xe : Value → Shared → Prop
/-- the callers' frames -/
def frs (l : List Env) : List Addr := l.filterMap (·.frame)
abbrev Cx.fs (X : Cx) : List Addr := frs X.outer

def Vis (sc : Scope) (x : Str) : Prop := sc.names.lookup x = some .local ∨ sc.names.lookup x = some .cell ∨ sc.names.lookup x = some .free
def Loc (sc : Scope) (x : Str) : Prop := sc.names.lookup x = some .local ∨ sc.names.lookup x = some .cell
def Look (env : Env) (h : Heap) (m : Str → Option Value) (x : Str) (u : Value) : Prop :=
  (env.kindOf x = some .local ∧ m x = some u) ∨ ((env.kindOf x = some .cell ∨ env.kindOf x = some .free) ∧ ∃ c, env.cells.lookup x = some c ∧ h.IsCell c (some u))

structure Cx.Ok (X : Cx) : Prop where
  mod : Mod X.K X.mg X.base
  kind : X.env.scope.kind = .function
  glob : X.env.globals = mainGlobals
  blt : X.env.builtins = builtinsNs
  above : X.s₀.heap.objs.size ≤ X.env.locals
  inj : ∀ x y c, X.env.cells.lookup x = some c → X.env.cells.lookup y = some c → x = y
  has : ∀ x, (X.env.kindOf x = some .cell ∨ X.env.kindOf x = some .free) → ∃ c, X.env.cells.lookup x = some c
  cab : ∀ x c, X.fn x = true → X.env.cells.lookup x = some c → X.s₀.heap.objs.size ≤ c
  hd : X.calm = true → X.A.handled = none
  frames : X.A.frames = some X.stack
  stk : X.stack = X.outer ∨ (X.stack = X.env :: X.outer ∧ X.env.frame = some X.env.locals)
  exf : ∀ b ∈ X.ex, b ≠ X.env.locals ∧ ∀ x c, X.env.cells.lookup x = some c → c ≠ b
  bs : ∀ b o, X.base.get? b = some o → X.s₀.heap.get? b = some o ∧ X.H₀ b = none
  bsz : X.base.objs.size ≤ X.s₀.heap.objs.size
  noex : ∀ b o, X.base.get? b = some o → b ∉ X.ex
  exfs : ∀ b ∈ X.ex, b ∉ X.fs
  funs : X.s₀.heap.FunFrames X.base X.outer
  frf : ∀ b ∈ X.fs, X.H₀ b = none

structure Inv (X : Cx) (pins : List (Addr × Obj)) (σ : List (Option V)) (H : Hp) (s : Shared) : Prop where
  ok : X.Ok
  os : s.os = X.s₀.os
  bare : AllBare s.gens
  base : Un X.fs X.ex X.H₀ H X.s₀.heap s.heap
  loc : ∃ m, s.heap.Ns X.env.locals m ∧ ∀ (i : Nat) (x : Str) (v : V), X.N[i]? = some x → σ[i]? = some (some v) → Vis X.env.scope x → ∃ u, RelV v u ∧ Look X.env s.heap m x u
  cell : ∀ x c, X.env.cells.lookup x = some c → ∃ v, s.heap.IsCell c v
  free : H X.env.locals = none
  freeC : ∀ x c, X.env.cells.lookup x = some c → H c = none
  pin : ∀ p ∈ X.pn ++ pins, s.heap.get? p.1 = some p.2 ∧ H p.1 = none ∧ p.1 ≠ X.env.locals ∧ p.1 ∉ X.fs ∧ ∀ v, p.2.data ≠ .cell v
  hok : HOk X.prog X.w H s.heap
  len : σ.length = X.N.length

section
variable {X : Cx} {pins : List (Addr × Obj)} {σ : List (Option V)} {H H' : Hp} {s : Shared} {h' : Heap}

theorem Cx.Ok.nofr (ok : X.Ok) {b : Addr} {o : Obj} (e : X.base.get? b = some o) : b ∉ X.fs := fun hb => by
  have := (ok.funs.mem hb).1
  rw [e] at this; cases this
theorem Inv.bs (I : Inv X pins σ H s) : ∀ b o, X.base.get? b = some o → s.heap.get? b = some o ∧ H b = none := fun b o e =>
  ⟨I.base.keep b o (I.ok.bs b o e).1 (I.ok.bs b o e).2 (I.ok.nofr e) (I.ok.noex b o e), I.base.free b o (I.ok.bs b o e).1 (I.ok.bs b o e).2 (I.ok.noex b o e)⟩
theorem Inv.bk (I : Inv X pins σ H s) : ∀ b o, X.base.get? b = some o → s.heap.get? b = some o := fun b o e => (I.bs b o e).1
theorem Inv.mod (I : Inv X pins σ H s) : Mod X.K X.mg X.base := I.ok.mod
theorem Inv.kIn (I : Inv X pins σ H s) : X.K.In s.heap := I.ok.mod.kin.keeps I.bk
theorem Inv.lt (I : Inv X pins σ H s) : X.env.locals < s.heap.objs.size := let ⟨_, hn, _⟩ := I.loc; hn.lt
theorem Inv.sz (I : Inv X pins σ H s) : X.s₀.heap.objs.size ≤ s.heap.objs.size := Nat.le_trans I.ok.above (Nat.le_of_lt I.lt)
theorem Inv.nofs (I : Inv X pins σ H s) {a : Addr} (h : s.heap.objs.size ≤ a) : a ∉ X.fs := fun hb => by
  obtain ⟨_, o, ho, _⟩ := I.ok.funs.mem hb
  exact absurd (Nat.lt_of_lt_of_le (Heap.lt_size ho) (Nat.le_trans I.sz h)) (Nat.lt_irrefl _)
theorem Inv.cne (I : Inv X pins σ H s) : ∀ x c, X.env.cells.lookup x = some c → c ≠ X.env.locals := fun x c e z => by
  obtain ⟨v, o, ho, hd⟩ := I.cell x c e
  obtain ⟨m, ⟨o', es, ep, ho', hd', _⟩, _⟩ := I.loc
  rw [z, ho'] at ho; cases ho; rw [hd'] at hd; cases hd
theorem Inv.funs (I : Inv X pins σ H s) : s.heap.FunFrames X.base X.outer := by
  have all : ∀ (l : List Env), (∀ b ∈ frs l, b ∈ X.fs) → X.s₀.heap.FunFrames X.base l → s.heap.FunFrames X.base l := by
    intro l
    induction l with
    | nil => intro _ _; trivial
    | cons env r ih =>
      intro hs hl
      obtain ⟨hk, ⟨L, o, hf, hn, ho, hd⟩, hr⟩ := hl
      have hL : L ∈ X.fs := hs L (by unfold frs; rw [List.filterMap_cons, hf]; exact List.mem_cons_self)
      obtain ⟨sl, e⟩ := I.base.slot L o ho (I.ok.frf L hL) hL fun z => I.ok.exfs L z hL
      exact ⟨hk, ⟨L, _, hf, hn, e, hd⟩, ih (fun b hb => hs b (by unfold frs; rw [List.filterMap_cons, hf]; exact List.mem_cons_of_mem _ hb)) hr⟩
  exact all X.outer (fun _ hb => hb) I.ok.funs

/-- the frames that run, for a call -/
theorem Inv.stack (I : Inv X pins σ H s) : s.heap.FunFrames X.base X.stack := by
  rcases I.ok.stk with e | ⟨e, hf⟩
  · rw [e]; exact I.funs
  · rw [e]
    obtain ⟨m, hn, _⟩ := I.loc
    refine .cons (by rw [I.ok.kind]; decide) hf hn ?_ I.funs
    exact Heap.get?_none_of_le (Nat.le_trans I.ok.bsz I.ok.above)
theorem Inv.stkSub (I : Inv X pins σ H s) : ∀ b ∈ frs X.stack, b ∈ X.env.locals :: X.fs := fun b hb => by
  rcases I.ok.stk with e | ⟨e, hf⟩
  · rw [e] at hb; exact List.mem_cons_of_mem _ hb
  · rw [e] at hb
    unfold frs at hb
    rw [List.filterMap_cons, hf] at hb
    exact hb
theorem Inv.stkFree (I : Inv X pins σ H s) : ∀ b ∈ frs X.stack, H b = none := fun b hb => by
  rcases List.mem_cons.mp (I.stkSub b hb) with e | hb
  · rw [e]; exact I.free
  · obtain ⟨_, o, ho, _⟩ := I.ok.funs.mem hb
    exact I.base.free b o ho (I.ok.frf b hb) fun z => I.ok.exfs b z hb

/-- THE STEP: the untracked objects but the frame and the records at ch are kept (the callers' frames up to slots), the frame's map is kept, the new abstract heap is held -/
theorem Inv.step {g' : Array GenState} {t' : Nat} {d' : Drawn} {ch : List Addr} (I : Inv X pins σ H s)
    (hch : ∀ b ∈ ch, (b ∈ X.ex ∨ X.s₀.heap.objs.size ≤ b) ∧ b ≠ X.env.locals ∧ (∀ x c, X.env.cells.lookup x = some c → c ≠ b) ∧ ∀ p ∈ X.pn ++ pins, p.1 ≠ b)
    (keep : ∀ b o, b ≠ X.env.locals → b ∉ X.fs → b ∉ ch → s.heap.get? b = some o → H b = none → h'.get? b = some o)
    (slot : ∀ b o, b ≠ X.env.locals → b ∈ X.fs → b ∉ ch → s.heap.get? b = some o → H b = none → ∃ sl, h'.get? b = some { o with slots := sl }) (free : ∀ b o, b ∉ ch → s.heap.get? b = some o → H b = none → H' b = none)
    (there : ∀ b o, b ∉ ch → s.heap.get? b = some o → ∃ o', h'.get? b = some o')
    (tups : ∀ b xs, H b = some (.tup xs) → H' b = some (.tup xs)) (frzs : ∀ b o u, H b = some (.frz o u) → H' b = some (.frz o u)) (tbls : ∀ b ps, H b = some (.tbl ps) → ∃ more, H' b = some (.tbl (ps ++ more)))
    (ns : ∀ m, s.heap.Ns X.env.locals m → h'.Ns X.env.locals m) (hok : HOk X.prog X.w H' h') (hg : AllBare g') :
    Inv X pins σ H' { s with heap := h', gens := g', drawn := d', toks := t' } := by
  have neL : ∀ b o, X.s₀.heap.get? b = some o → b ≠ X.env.locals := fun b o e => Nat.ne_of_lt (Nat.lt_of_lt_of_le (Heap.lt_size e) I.ok.above)
  have neC : ∀ b o, X.s₀.heap.get? b = some o → b ∉ X.ex → b ∉ ch := fun b o e hx hb => by
    rcases (hch b hb).1 with z | z
    · exact hx z
    · exact absurd (Nat.lt_of_lt_of_le (Heap.lt_size e) z) (Nat.lt_irrefl _)
  have cellK : ∀ x c, X.env.cells.lookup x = some c → ∀ v, s.heap.IsCell c v → h'.IsCell c v := fun x c e v ⟨o, ho, hd⟩ => by
    have nch : c ∉ ch := fun z => (hch c z).2.2.1 x c e rfl
    by_cases hc : c ∈ X.fs
    · obtain ⟨sl, q⟩ := slot c o (I.cne x c e) hc nch ho (I.freeC x c e)
      exact ⟨_, q, hd⟩
    · exact ⟨o, keep c o (I.cne x c e) hc nch ho (I.freeC x c e), hd⟩
  refine ⟨I.ok, I.os, hg, ⟨fun b o e n hb hx => ?_, fun b o e n hb hx => ?_, fun b o e n hx => ?_, fun b o e hx => ?_, fun b xs e => tups b xs (I.base.tups b xs e), fun b o xs e => frzs b o xs (I.base.frzs b o xs e), fun b ps e => ?_⟩, ?_, fun x c e => ?_, ?_, fun x c e => ?_, fun p hp => ?_, hok, I.len⟩
  · exact keep b o (neL b o e) hb (neC b o e hx) (I.base.keep b o e n hb hx) (I.base.free b o e n hx)
  · obtain ⟨sl, e1⟩ := I.base.slot b o e n hb hx
    obtain ⟨sl', e2⟩ := slot b _ (neL b o e) hb (neC b o e hx) e1 (I.base.free b o e n hx)
    exact ⟨sl', e2⟩
  · obtain ⟨o', e1⟩ := I.base.there b o e hx
    exact free b o' (neC b o e hx) e1 (I.base.free b o e n hx)
  · obtain ⟨o', e1⟩ := I.base.there b o e hx
    exact there b o' (neC b o e hx) e1
  · obtain ⟨m1, e1⟩ := I.base.tbls b ps e
    obtain ⟨m2, e2⟩ := tbls b _ e1
    exact ⟨m1 ++ m2, by rw [e2, Array.append_assoc]⟩
  · obtain ⟨m, hn, hl⟩ := I.loc
    refine ⟨m, ns m hn, fun i x v e1 e2 e3 => ?_⟩
    obtain ⟨u, r, l⟩ := hl i x v e1 e2 e3
    refine ⟨u, r, ?_⟩
    rcases l with l | ⟨k, c, e, z⟩
    · exact .inl l
    · exact .inr ⟨k, c, e, cellK x c e _ z⟩
  · obtain ⟨v, z⟩ := I.cell x c e
    exact ⟨v, cellK x c e v z⟩
  · obtain ⟨m, ⟨o, _, _, ho, _⟩, _⟩ := I.loc
    exact free _ o (fun z => (hch _ z).2.1 rfl) ho I.free
  · obtain ⟨v, o, ho, hd⟩ := I.cell x c e
    exact free c o (fun z => (hch c z).2.2.1 x c e rfl) ho (I.freeC x c e)
  · obtain ⟨e, n, ne, nf, d⟩ := I.pin p hp
    have nch : p.1 ∉ ch := fun z => (hch p.1 z).2.2.2 p hp rfl
    exact ⟨keep p.1 p.2 ne nf nch e n, free p.1 p.2 nch e n, ne, nf, d⟩
/-- .. where the frame's own object is kept too -/
theorem Inv.un {t' : Nat} (I : Inv X pins σ H s) (u : Un X.fs [] H H' s.heap h') (hok : HOk X.prog X.w H' h') : Inv X pins σ H' { s with heap := h', toks := t' } := by
  obtain ⟨m, ⟨o, es, ep, ho, r⟩, _⟩ := id I.loc
  obtain ⟨sl, hL⟩ := u.any ho I.free (by simp)
  exact I.step (g' := s.gens) (d' := s.drawn) (ch := []) (fun _ z => nomatch z) (fun b o _ hb _ e n => u.keep b o e n hb (by simp)) (fun b o _ hb _ e n => u.slot b o e n hb (by simp)) (fun b o _ e n => u.free b o e n (by simp)) (fun b o _ e => u.there b o e (by simp)) u.tups u.frzs u.tbls (fun m' hm => by
    obtain ⟨o', es', ep', ho', r'⟩ := hm
    rw [ho] at ho'; cases ho'
    exact ⟨_, es', ep', hL, r'⟩) hok I.bare
/-- behind a call (or a comprehension's block): the slots of this frame may have changed too, the records at ch may have turned -/
theorem Inv.call {g' : Array GenState} {t' : Nat} {d' : Drawn} {ch : List Addr} (I : Inv X pins σ H s) (u : Un (frs X.stack) ch H H' s.heap h') (hok : HOk X.prog X.w H' h') (hg : AllBare g')
    (hch : ∀ b ∈ ch, (b ∈ X.ex ∨ X.s₀.heap.objs.size ≤ b) ∧ b ≠ X.env.locals ∧ (∀ x c, X.env.cells.lookup x = some c → c ≠ b) ∧ ∀ p ∈ X.pn ++ pins, p.1 ≠ b) :
    Inv X pins σ H' { s with heap := h', gens := g', drawn := d', toks := t' } := by
  obtain ⟨m, ⟨o, es, ep, ho, r⟩, _⟩ := id I.loc
  obtain ⟨sl, hL⟩ := u.any ho I.free fun z => (hch _ z).2.1 rfl
  exact I.step (ch := ch) hch (fun b o hL hb hc e n => u.keep b o e n (fun z => (List.mem_cons.mp (I.stkSub b z)).elim hL hb) hc) (fun b o _ _ hc e n => u.any e n hc) (fun b o hc e n => u.free b o e n hc) (fun b o hc e => u.there b o e hc) u.tups u.frzs u.tbls (fun m' hm => by
    obtain ⟨o', es', ep', ho', r'⟩ := hm
    rw [ho] at ho'; cases ho'
    exact ⟨_, es', ep', hL, r'⟩) hok hg
/-- an untracked record of ours (an iterator) has turned -/
theorem Inv.turned {t' : Nat} {it : Addr} (I : Inv X pins σ H s) (k : ∀ b o, b ≠ it → s.heap.get? b = some o → h'.get? b = some o) (hn : H it = none) (hL : it ≠ X.env.locals)
    (h1 : it ∈ X.ex ∨ X.s₀.heap.objs.size ≤ it) (h2 : ∀ x c, X.env.cells.lookup x = some c → c ≠ it) (h3 : ∀ p ∈ X.pn ++ pins, p.1 ≠ it) : Inv X pins σ H { s with heap := h', toks := t' } := by
  have nit : ∀ b u, H b = some u → b ≠ it := fun b u e z => by rw [z, hn] at e; cases e
  refine I.step (g' := s.gens) (d' := s.drawn) (ch := [it]) (fun b hb => ?_) (fun b o _ _ hc e _ => k b o (fun z => hc (by simp [z])) e) (fun b o _ _ hc e _ => ⟨o.slots, k b o (fun z => hc (by simp [z])) e⟩) (fun _ _ _ _ n => n)
    (fun b o hc e => ⟨o, k b o (fun z => hc (by simp [z])) e⟩) (fun _ _ e => e) (fun _ _ _ e => e) (fun b ps e => ⟨#[], by rw [e]; simp⟩) (fun m hm => ?_) (fun b u e => ?_) I.bare
  · have e : b = it := by simpa using hb
    subst e
    exact ⟨h1, hL, h2, h3⟩
  · obtain ⟨o, es, ep, ho, r⟩ := hm
    exact ⟨o, es, ep, k _ o (Ne.symm hL) ho, r⟩
  · refine (I.hok b u e).stay (fun c v hc q => k c v ?_ q) (fun _ q => q) fun _ _ q => q
    rcases hc with z | z
    · rw [z]; exact nit b u e
    · exact nit c _ z
theorem Inv.tok (I : Inv X pins σ H s) (t : Nat) : Inv X pins σ H { s with toks := t } := I.un (h' := s.heap) (t' := t) Un.refl I.hok
/-- all objects kept -/
theorem Inv.kept {t' : Nat} (I : Inv X pins σ H s) (k : ∀ b u, s.heap.get? b = some u → h'.get? b = some u) : Inv X pins σ H { s with heap := h', toks := t' } := I.un (Un.kept k) (I.hok.kept k)
/-- a new object laid and tracked -/
theorem Inv.laid {a : Addr} {o : HO} {t' : Nat} (I : Inv X pins σ H s) (k : ∀ b u, s.heap.get? b = some u → h'.get? b = some u) (hp : s.heap.objs.size ≤ a) (new : ObjOk X.prog X.w (upd H a o) h' a o) :
    Inv X pins σ (upd H a o) { s with heap := h', toks := t' } := I.un (Un.laid k hp (I.hok.fresh hp)) (I.hok.laid k hp new)
/-- an object written -/
theorem Inv.write {x e : Addr} {o : HO} {t' : Nat} (I : Inv X pins σ H s) (mu : Mut (H x)) (he : e = x ∨ H e = some (.own x)) (k : ∀ b u, b ≠ e → s.heap.get? b = some u → h'.get? b = some u) (heo : ∃ u, h'.get? e = some u)
    (new : ObjOk X.prog X.w (upd H x o) h' x o) : Inv X pins σ (upd H x o) { s with heap := h', toks := t' } := I.un (Un.write mu he k heo) (I.hok.write mu he k heo new)
theorem Inv.pins_of {pins' : List (Addr × Obj)} (I : Inv X pins σ H s) (h : ∀ p ∈ pins', s.heap.get? p.1 = some p.2 ∧ H p.1 = none ∧ p.1 ≠ X.env.locals ∧ p.1 ∉ X.fs ∧ ∀ v, p.2.data ≠ .cell v) : Inv X pins' σ H s :=
  ⟨I.ok, I.os, I.bare, I.base, I.loc, I.cell, I.free, I.freeC, fun p hp => (List.mem_append.mp hp).elim (fun z => I.pin p (List.mem_append_left _ z)) (h p), I.hok, I.len⟩

theorem nodup_ix {N : List Str} (hN : N.Nodup) {i j : Nat} {x : Str} (a : N[i]? = some x) (b : N[j]? = some x) : i = j := by
  obtain ⟨h1, e1⟩ := List.getElem?_eq_some_iff.mp a
  obtain ⟨h2, e2⟩ := List.getElem?_eq_some_iff.mp b
  exact (List.getElem_inj hN).mp (e1.trans e2.symm)

/-- a name is stored; what changed -/
theorem store_ok2 {M : Model} {A : Around} {E : Value → Shared → Prop} {i : Nat} {x : Str} {v : V} {u : Value} {Q : Unit → Shared → Prop} (I : Inv X pins σ H s) (hN : X.N.Nodup) (hi : X.N[i]? = some x) (hx : Loc X.env.scope x) (r : RelV v u)
    (h : ∀ s', Inv X pins (σ.set i (some v)) H s' → (∃ a, Heap.SameBut a s.heap s'.heap ∧ (a = X.env.locals ∨ X.env.cells.lookup x = some a)) → Q () s') (hf : X.fn x = true ∨ X.env.scope.names.lookup x = some .local := by first | exact .inl rfl | exact .inr rfl | assumption) : wpAny M A (storeName X.env x u) Q E s := by
  obtain ⟨m, hn, hl⟩ := id I.loc
  have hcls : (X.env.scope.kind == .class || (X.env.scope.kind == .module && X.env.locals != X.env.globals)) = false := by rw [I.ok.kind]; rfl
  have hiσ : i < σ.length := by rw [I.len]; exact (List.getElem?_eq_some_iff.mp hi).1
  have cne := I.cne
  have tracked : ∀ {a : Addr} {h' : Heap}, (∃ o, s.heap.get? a = some o ∧ H a = none) → Heap.SameBut a s.heap h' → HOk X.prog X.w H h' := fun {a h'} ha hs b ob e => by
    obtain ⟨_, _, hfree⟩ := ha
    refine (I.hok b ob e).stay (fun c w' hc q => (hs.2 c ?_).trans q) (fun _ q => q) fun _ _ q => q
    rintro rfl
    rcases hc with rfl | hc
    · rw [hfree] at e; cases e
    · rw [hfree] at hc; cases hc
  rcases hx with hk | hk
  · refine wpAny_storeName_local hk hn (fun h' hn' hs => ?_) hcls
    obtain ⟨oL, _, _, hoL, _⟩ := id hn
    refine h _ ⟨I.ok, I.os, I.bare, ⟨fun b o e n hb hx => ?_, fun b o e n hb hx => ?_, I.base.free, fun b o e hx => ?_, I.base.tups, I.base.frzs, I.base.tbls⟩, ⟨_, hn', fun j y v' e1 e2 e3 => ?_⟩, fun y c e => ?_, I.free, I.freeC, fun p hp => ?_, tracked ⟨oL, hoL, I.free⟩ hs, by simpa using I.len⟩ ⟨_, hs, .inl rfl⟩
    · exact (hs.2 b (Nat.ne_of_lt (Nat.lt_of_lt_of_le (Heap.lt_size e) I.ok.above))).trans (I.base.keep b o e n hb hx)
    · obtain ⟨sl, e1⟩ := I.base.slot b o e n hb hx
      exact ⟨sl, (hs.2 b (Nat.ne_of_lt (Nat.lt_of_lt_of_le (Heap.lt_size e) I.ok.above))).trans e1⟩
    · obtain ⟨o', e1⟩ := I.base.there b o e hx
      exact ⟨o', (hs.2 b (Nat.ne_of_lt (Nat.lt_of_lt_of_le (Heap.lt_size e) I.ok.above))).trans e1⟩
    · by_cases hj : j = i
      · subst hj
        rw [hi] at e1; cases e1
        rw [List.getElem?_set_self hiσ] at e2
        cases e2
        exact ⟨u, r, .inl ⟨hk, by simp⟩⟩
      · rw [List.getElem?_set_ne (Ne.symm hj)] at e2
        obtain ⟨u', r', q⟩ := hl j y v' e1 e2 e3
        refine ⟨u', r', ?_⟩
        rcases q with ⟨k, e⟩ | ⟨k, c, e, z⟩
        · refine .inl ⟨k, ?_⟩
          have : y ≠ x := fun e => hj (nodup_ix hN e1 (e ▸ hi))
          simp [this, e]
        · exact .inr ⟨k, c, e, z.sameBut hs (cne y c e)⟩
    · obtain ⟨w', z⟩ := I.cell y c e
      exact ⟨w', z.sameBut hs (cne y c e)⟩
    · obtain ⟨e, n, ne, nf, d⟩ := I.pin p hp
      exact ⟨(hs.2 p.1 ne).trans e, n, ne, nf, d⟩
  · have hfn : X.fn x = true := by
      rcases hf with z | z
      · exact z
      · rw [z] at hk; cases hk
    obtain ⟨c, hc⟩ := I.ok.has x (.inl hk)
    obtain ⟨w', z⟩ := I.cell x c hc
    refine wpAny_storeName_cell I.ok.kind hk hc z (fun h' hc' hs => ?_)
    obtain ⟨oc, hoc, hocd⟩ := id z
    refine h { s with heap := h' } ⟨I.ok, I.os, I.bare, ⟨fun b o e n hb hx => ?_, fun b o e n hb hx => ?_, I.base.free, fun b o e hx => ?_, I.base.tups, I.base.frzs, I.base.tbls⟩, ⟨m, hn.sameBut hs (Ne.symm (cne x c hc)), fun j y v' e1 e2 e3 => ?_⟩, fun y c' e => ?_, I.free, I.freeC, fun p hp => ?_, tracked ⟨oc, hoc, I.freeC x c hc⟩ hs, by simpa using I.len⟩ ⟨c, hs, .inr hc⟩
    · exact (hs.2 b (Nat.ne_of_lt (Nat.lt_of_lt_of_le (Heap.lt_size e) (I.ok.cab x c hfn hc)))).trans (I.base.keep b o e n hb hx)
    · obtain ⟨sl, e1⟩ := I.base.slot b o e n hb hx
      exact ⟨sl, (hs.2 b (Nat.ne_of_lt (Nat.lt_of_lt_of_le (Heap.lt_size e) (I.ok.cab x c hfn hc)))).trans e1⟩
    · obtain ⟨o', e1⟩ := I.base.there b o e hx
      exact ⟨o', (hs.2 b (Nat.ne_of_lt (Nat.lt_of_lt_of_le (Heap.lt_size e) (I.ok.cab x c hfn hc)))).trans e1⟩
    · by_cases hj : j = i
      · subst hj
        rw [hi] at e1; cases e1
        rw [List.getElem?_set_self hiσ] at e2
        cases e2
        exact ⟨u, r, .inr ⟨.inl hk, c, hc, hc'⟩⟩
      · rw [List.getElem?_set_ne (Ne.symm hj)] at e2
        obtain ⟨u', r', q⟩ := hl j y v' e1 e2 e3
        refine ⟨u', r', ?_⟩
        rcases q with q | ⟨k, c', e, z'⟩
        · exact .inl q
        · refine .inr ⟨k, c', e, z'.sameBut hs ?_⟩
          rintro rfl
          exact hj (nodup_ix hN e1 (I.ok.inj _ _ _ e hc ▸ hi))
    · by_cases hcc : c' = c
      · subst hcc; exact ⟨_, hc'⟩
      · obtain ⟨w2, z2⟩ := I.cell y c' e
        exact ⟨w2, z2.sameBut hs hcc⟩
    · obtain ⟨e, n, ne, nf, d⟩ := I.pin p hp
      refine ⟨(hs.2 p.1 ?_).trans e, n, ne, nf, d⟩
      intro q
      rw [q, hoc] at e
      have q' : oc = p.2 := Option.some.inj e
      exact d w' (by rw [← q']; exact hocd)
theorem store_ok {M : Model} {A : Around} {E : Value → Shared → Prop} {i : Nat} {x : Str} {v : V} {u : Value} {Q : Unit → Shared → Prop} (I : Inv X pins σ H s) (hN : X.N.Nodup) (hi : X.N[i]? = some x) (hx : Loc X.env.scope x) (r : RelV v u)
    (h : ∀ s', Inv X pins (σ.set i (some v)) H s' → Q () s') (hf : X.fn x = true ∨ X.env.scope.names.lookup x = some .local := by first | exact .inl rfl | exact .inr rfl | assumption) : wpAny M A (storeName X.env x u) Q E s :=
  store_ok2 I hN hi hx r (fun s' I' _ => h s' I') hf
/-- behind a call or a block, the state as it is -/
theorem Inv.call' {s' : Shared} {ch : List Addr} (I : Inv X pins σ H s) (ho : s'.os = s.os) (u : Un (frs X.stack) ch H H' s.heap s'.heap) (hok : HOk X.prog X.w H' s'.heap) (hg : AllBare s'.gens)
    (hch : ∀ b ∈ ch, (b ∈ X.ex ∨ X.s₀.heap.objs.size ≤ b) ∧ b ≠ X.env.locals ∧ (∀ x c, X.env.cells.lookup x = some c → c ≠ b) ∧ ∀ p ∈ X.pn ++ pins, p.1 ≠ b) : Inv X pins σ H' s' := by
  obtain ⟨h', g', d', t', o'⟩ := s'
  have e : o' = s.os := ho
  subst e
  exact I.call (g' := g') (t' := t') (d' := d') u hok hg hch
end

/-! ### the judgements -/
/-- an exception: its class, its own dict's address (where it has one), the abstract heap behind it -/
abbrev XK := Value → Option Addr → Hp → Prop
abbrev St := List (Option V)
abbrev VK := V → Hp → Prop
/-- an expression's reading; a test's; an argument list's -/
abbrev TE := St → Hp → VK → Prop
abbrev TT := St → Hp → (Bool → Hp → Prop) → Prop
abbrev TA := St → Hp → (List V → Hp → Prop) → Prop
/-- what is wanted behind a statement -/
structure Ends where
  nx : St → Hp → Prop
  rt : VK
  bk : St → Hp → Prop := fun _ _ => False
  ct : St → Hp → Prop := fun _ _ => False
abbrev TS := Ends → St → Hp → Prop

def EP (X : Cx) (pins : List (Addr × Obj)) (σ : St) (Q : VK) (u : Value) (s' : Shared) : Prop := ∃ v H', Inv X pins σ H' s' ∧ RelV v u ∧ Q v H'
def TP (X : Cx) (pins : List (Addr × Obj)) (σ : St) (Q : Bool → Hp → Prop) (b : Bool) (s' : Shared) : Prop := ∃ H', Inv X pins σ H' s' ∧ Q b H'
def AP (X : Cx) (pins : List (Addr × Obj)) (σ : St) (Q : List V → Hp → Prop) (us : List Value) (s' : Shared) : Prop := ∃ vs H', Inv X pins σ H' s' ∧ Vals vs us ∧ Q vs H'
def SP (X : Cx) (pins : List (Addr × Obj)) (D : Ends) (f : Flow) (s' : Shared) : Prop :=
  match f with
  | .next => ∃ σ' H', Inv X pins σ' H' s' ∧ D.nx σ' H'
  | .brk => ∃ σ' H', Inv X pins σ' H' s' ∧ D.bk σ' H'
  | .cont => ∃ σ' H', Inv X pins σ' H' s' ∧ D.ct σ' H'
  | .ret u => ∃ v σ' H', Inv X pins σ' H' s' ∧ RelV v u ∧ D.rt v H'

def PE (X : Cx) (e : Expr) (t : TE) : Prop :=
  ∀ (pins : List (Addr × Obj)) (s : Shared) (σ : St) (H : Hp) (Q : VK), Inv X pins σ H s → t σ H Q → wpAny (model X.prog X.w) X.A (eval e X.env) (EP X pins σ Q) X.xe s
def PT (X : Cx) (e : Expr) (t : TT) : Prop :=
  ∀ (pins : List (Addr × Obj)) (s : Shared) (σ : St) (H : Hp) (Q : Bool → Hp → Prop), Inv X pins σ H s → t σ H Q → wpAny (model X.prog X.w) X.A (isTrue e X.env (eval e X.env)) (TP X pins σ Q) X.xe s
/-- a test whatever its 'whole' is (and, or) -/
def PW (X : Cx) (e : Expr) (t : TT) : Prop :=
  ∀ (whole : Sem Value) (pins : List (Addr × Obj)) (s : Shared) (σ : St) (H : Hp) (Q : Bool → Hp → Prop), Inv X pins σ H s → t σ H Q → wpAny (model X.prog X.w) X.A (isTrue e X.env whole) (TP X pins σ Q) X.xe s
theorem PW.pt {X : Cx} {e : Expr} {t : TT} (h : PW X e t) : PT X e t := h _
/-- an argument list (no star), from the left -/
def PA (X : Cx) (es : List Expr) (t : TA) : Prop :=
  ∀ (pos : Pos) (pins : List (Addr × Obj)) (s : Shared) (σ : St) (H : Hp) (Q : List V → Hp → Prop), Inv X pins σ H s → t σ H Q → wpAny (model X.prog X.w) X.A (spliced (backTo pos (starEach es X.env))) (AP X pins σ Q) X.xe s
def PS (X : Cx) (st : Stmt) (t : TS) : Prop :=
  ∀ (pins : List (Addr × Obj)) (s : Shared) (σ : St) (H : Hp) (D : Ends), Inv X pins σ H s → t D σ H → wpAny (model X.prog X.w) X.A (exec st X.env) (SP X pins D) X.xe s
def PSs (X : Cx) (st : List Stmt) (t : TS) : Prop :=
  ∀ (pins : List (Addr × Obj)) (s : Shared) (σ : St) (H : Hp) (D : Ends), Inv X pins σ H s → t D σ H → wpAny (model X.prog X.w) X.A (execs st X.env) (SP X pins D) X.xe s
/-- weaken the end -/
theorem thn {α : Type} {t : Sem α} {Q Q' : α → Shared → Prop} {M : Model} {A : Around} {E : Value → Shared → Prop} {s : Shared} (h : wpAny M A t Q E s) (hQ : ∀ a s, Q a s → Q' a s) : wpAny M A t Q' E s := wpAny_mono h hQ fun _ _ x => x
end L2

namespace L2
open PySem PySem.Spec PyProof.Rows
section
variable {X : Cx}

/-! ### names and constants -/
def tVar (i : Nat) : TE := fun σ H Q => ∃ v, σ[i]? = some (some v) ∧ Q v H
def tC (v : V) : TE := fun _ H Q => Q v H
theorem pe_var {i : Nat} {x : Str} {pos : Pos} (hN : X.N[i]? = some x) (hv : Vis X.env.scope x) (hd : (x == ("__debug__" : Str)) = false := by decide) (hcd : (x == ("__classdict__" : Str)) = false := by decide) : PE X (.Name x pos) (tVar i) := by
  intro pins s σ H Q I h
  obtain ⟨v, e, h⟩ := h
  obtain ⟨m, hn, hl⟩ := I.loc
  obtain ⟨u, r, l⟩ := hl i x v hN e hv
  have fin : EP X pins σ Q u s := ⟨v, H, I, r, h⟩
  rcases l with ⟨hk, hm⟩ | ⟨hk, c, hc, hcell⟩
  · exact wpAny_Name (wpAny_loadName_local I.ok.kind hk hn hm fin) hd
  · rcases hk with hk | hk
    · exact wpAny_Name (wpAny_loadName_cell I.ok.kind hk hc hcell fin) hd
    · exact wpAny_Name (wpAny_loadName_free I.ok.kind hk hc hcell fin hcd) hd
theorem pe_int {i j pos} : PE X (.Constant (.int i) j pos) (tC (.int i)) := fun _ _ _ H _ I h => wpAny_Constant_int ⟨.int i, H, I.tok _, ⟨_, rfl⟩, h⟩
theorem pe_bl {b j pos} : PE X (.Constant (.bool b) j pos) (tC (.bl b)) := fun _ _ _ H _ I h => Constant_bool ⟨.bl b, H, I, rfl, h⟩
theorem pe_non {j pos} : PE X (.Constant .none j pos) (tC .non) := fun _ _ _ H _ I h => Constant_none ⟨.non, H, I, rfl, h⟩
theorem pe_str {x j pos} : PE X (.Constant (.str x) j pos) (tC (.str x)) := fun _ _ _ H _ I h => Calls.Constant_str ⟨.str x, H, I.tok _, ⟨_, rfl⟩, h⟩

/-- a global name of the def -/
def Gl (X : Cx) (x : Str) : Prop := X.env.kindOf x = some .globalImplicit
theorem ld_glob {E : Value → Shared → Prop} {pins : List (Addr × Obj)} {s : Shared} {σ : St} {H : Hp} {x : Str} {u : Value} {pos : Pos} {Q : Value → Shared → Prop} (I : Inv X pins σ H s) (hg : Gl X x) (hm : X.mg x = some u) (h : Q u s)
    (hd : (x == ("__debug__" : Str)) = false := by decide) : wpAny (model X.prog X.w) X.A (eval (.Name x pos) X.env) Q E s :=
  Calls.Name_function_global I.ok.kind hg (Calls.loadGlobal_global (by rw [I.ok.glob]; exact I.mod.glob.keeps I.bk) hm h) hd
theorem ld_blt {E : Value → Shared → Prop} {pins : List (Addr × Obj)} {s : Shared} {σ : St} {H : Hp} {x : Str} {u : Value} {pos : Pos} {Q : Value → Shared → Prop} (I : Inv X pins σ H s) (hg : Gl X x) (hm : X.mg x = none) (hv : bootBuiltins x = some u) (h : Q u s)
    (hn : x ≠ "__name__" := by decide) (hd : (x == ("__debug__" : Str)) = false := by decide) : wpAny (model X.prog X.w) X.A (eval (.Name x pos) X.env) Q E s := by
  obtain ⟨mb, h1, h2⟩ := I.mod.blt
  exact Calls.Name_function_global I.ok.kind hg (Calls.loadGlobal_builtin (by rw [I.ok.glob]; exact I.mod.glob.keeps I.bk) hm (by rw [I.ok.blt]; exact h1.keeps I.bk) ((h2 x hn).trans hv) h) hd
/-- a module's constant, a class, a function, as a value -/
theorem pe_glob {x : Str} {v : V} {u : Value} {pos : Pos} (hg : Gl X x) (hm : X.mg x = some u) (r : RelV v u) (hd : (x == ("__debug__" : Str)) = false := by decide) : PE X (.Name x pos) (tC v) :=
  fun _ _ _ H _ I h => ld_glob I hg hm ⟨v, H, I, r, h⟩ hd
theorem pe_bltn {x : Str} {v : V} {u : Value} {pos : Pos} (hg : Gl X x) (hm : X.mg x = none) (hv : bootBuiltins x = some u) (r : RelV v u) (hn : x ≠ "__name__" := by decide) (hd : (x == ("__debug__" : Str)) = false := by decide) : PE X (.Name x pos) (tC v) :=
  fun _ _ _ H _ I h => ld_blt I hg hm hv ⟨v, H, I, r, h⟩ hn hd

/-! ### arithmetic -/
/-- two ints -/
def t2I (ta tb : TE) (k : Int → Int → Hp → Prop) : St → Hp → Prop := fun σ H => ta σ H fun x H1 => tb σ H1 fun y H2 => ∃ i j, x = .int i ∧ y = .int j ∧ k i j H2
def tAdd (ta tb : TE) : TE := fun σ H Q => t2I ta tb (fun i j H2 => Q (.int (i + j)) H2) σ H
def tSub (ta tb : TE) : TE := fun σ H Q => t2I ta tb (fun i j H2 => Q (.int (i - j)) H2) σ H
/-- the left factor below 2^64 -/
def tMul (ta tb : TE) : TE := fun σ H Q => t2I ta tb (fun i j H2 => (-(2 ^ 64) < i ∧ i < 2 ^ 64) ∧ Q (.int (i * j)) H2) σ H
variable {a b : Expr} {ta tb : TE} {pos : Pos}
/-! ### comparisons -/
def PC (X : Cx) (op : CmpOp) (a b : Expr) (t : TE) : Prop :=
  ∀ (pins : List (Addr × Obj)) (s : Shared) (σ : St) (H : Hp) (Q : VK), Inv X pins σ H s → t σ H Q →
    wpAny (model X.prog X.w) X.A (eval a X.env) (fun v s₁ => wpAny (model X.prog X.w) X.A (eval b X.env) (fun u s₂ => wpAny (model X.prog X.w) X.A (compareOp op v u) (EP X pins σ Q) X.xe s₂) X.xe s₁) X.xe s
def tCmp (p : Int → Int → Bool) (ta tb : TE) : TE := fun σ H Q => t2I ta tb (fun i j H2 => Q (.bl (p i j)) H2) σ H
abbrev tLt : TE → TE → TE := tCmp fun i j => decide (i < j)
abbrev tLe : TE → TE → TE := tCmp fun i j => decide (i ≤ j)
abbrev tGt : TE → TE → TE := tCmp fun i j => decide (j < i)
abbrev tGe : TE → TE → TE := tCmp fun i j => decide (j ≤ i)
abbrev tEqI : TE → TE → TE := tCmp fun i j => decide (i = j)
abbrev tNeI : TE → TE → TE := tCmp fun i j => !decide (i = j)
/-- is None -/
def tIsN (ta : TE) : TE := fun σ H Q => ta σ H fun x H1 => Q (.bl (decide (x = .non))) H1
def tNotN (ta : TE) : TE := fun σ H Q => ta σ H fun x H1 => Q (.bl (!decide (x = .non))) H1
/-- a comparison as a value, as a test -/
def tB (t : TE) : TT := fun σ H Q => t σ H fun x H1 => ∃ c, x = .bl c ∧ Q c H1
/-- an expression whose value is a bool, as a test -/
theorem pt_val {e : Expr} {t : TE} (h : PE X e t) (he : ∀ whole, isTrue e X.env whole = (do let v ← whole; standAt e.pos; holding [v] (truthy v)) := by intro _; rfl) : PT X e (tB t) := by
  intro pins s σ H Q I hw
  refine isTrue_plain (thn (h pins s σ H _ I hw) fun v s1 ⟨x, H1, I1, r1, q1⟩ => ?_) (he _)
  obtain ⟨d, rfl, q⟩ := q1
  cases r1
  exact wpAny_truthy_bool ⟨H1, I1, q⟩

/-! ### and, or, not -/
variable {tA tB' : TT} {rest : List Expr}
def tAnd (t u : TT) : TT := fun σ H Q => t σ H fun c H1 => if c = true then u σ H1 Q else Q false H1
def tOr (t u : TT) : TT := fun σ H Q => t σ H fun c H1 => if c = true then Q true H1 else u σ H1 Q
def tNot (t : TT) : TT := fun σ H Q => t σ H fun c H1 => Q (!c) H1
theorem pw_and1 (ha : PT X a tA) : PW X (.BoolOp .And [a] pos) tA := by
  intro wh pins s σ H Q I h
  refine isTrue_and (thn (ha pins s σ H Q I h) fun c s1 e => ?_)
  cases c with
  | true => exact isTrue_and_nil e
  | false => exact e
theorem pw_or1 (ha : PT X a tA) : PW X (.BoolOp .Or [a] pos) tA := by
  intro wh pins s σ H Q I h
  refine isTrue_or (thn (ha pins s σ H Q I h) fun c s1 e => ?_)
  cases c with
  | false => exact isTrue_or_nil e
  | true => exact e
theorem pw_and (ha : PT X a tA) (hb : PW X (.BoolOp .And (b :: rest) pos) tB') : PW X (.BoolOp .And (a :: b :: rest) pos) (tAnd tA tB') := by
  intro wh pins s σ H Q I h
  refine isTrue_and (thn (ha pins s σ H _ I h) fun c s1 ⟨H1, I1, q1⟩ => ?_)
  cases c with
  | true => exact hb wh pins s1 σ H1 Q I1 q1
  | false => exact ⟨H1, I1, q1⟩
theorem pw_or (ha : PT X a tA) (hb : PW X (.BoolOp .Or (b :: rest) pos) tB') : PW X (.BoolOp .Or (a :: b :: rest) pos) (tOr tA tB') := by
  intro wh pins s σ H Q I h
  refine isTrue_or (thn (ha pins s σ H _ I h) fun c s1 ⟨H1, I1, q1⟩ => ?_)
  cases c with
  | true => exact ⟨H1, I1, q1⟩
  | false => exact hb wh pins s1 σ H1 Q I1 q1
theorem pt_not (ha : PT X a tA) : PT X (.UnaryOp .Not a pos) (tNot tA) := by
  intro pins s σ H Q I h
  exact isTrue_not (ha pins s σ H (fun c H1 => Q (!c) H1) I h)
/-- .. as values (bools) -/
def tAndV (ta tb : TE) : TE := fun σ H Q => ta σ H fun x H1 => ∃ c, x = .bl c ∧ if c = true then tb σ H1 Q else Q (.bl false) H1
def tOrV (ta tb : TE) : TE := fun σ H Q => ta σ H fun x H1 => ∃ c, x = .bl c ∧ if c = true then Q (.bl true) H1 else tb σ H1 Q
def tNotV (ta : TE) : TE := fun σ H Q => ta σ H fun x H1 => ∃ c, x = .bl c ∧ Q (.bl (!c)) H1
theorem pe_one {op} {t : TE} (h : PE X a t) : PE X (.BoolOp op [a] pos) t := fun pins s σ H Q I hw => BoolOp_one (h pins s σ H Q I hw)
theorem pe_and (ha : PE X a ta) (hb : PE X (.BoolOp .And (b :: rest) pos) tb) : PE X (.BoolOp .And (a :: b :: rest) pos) (tAndV ta tb) := by
  intro pins s σ H Q I h
  refine BoolOp_and (thn (ha pins s σ H _ I h) fun v s1 ⟨x, H1, I1, r1, q1⟩ => ?_)
  obtain ⟨c, rfl, q1⟩ := q1
  cases r1
  refine wpAny_truthy_bool ?_
  cases c with
  | true => exact hb pins s1 σ H1 Q I1 q1
  | false => exact ⟨.bl false, H1, I1, rfl, q1⟩
theorem pe_or (ha : PE X a ta) (hb : PE X (.BoolOp .Or (b :: rest) pos) tb) : PE X (.BoolOp .Or (a :: b :: rest) pos) (tOrV ta tb) := by
  intro pins s σ H Q I h
  refine BoolOp_or (thn (ha pins s σ H _ I h) fun v s1 ⟨x, H1, I1, r1, q1⟩ => ?_)
  obtain ⟨c, rfl, q1⟩ := q1
  cases r1
  refine wpAny_truthy_bool ?_
  cases c with
  | false => exact hb pins s1 σ H1 Q I1 q1
  | true => exact ⟨.bl true, H1, I1, rfl, q1⟩
theorem pe_not (ha : PE X a ta) : PE X (.UnaryOp .Not a pos) (tNotV ta) := by
  intro pins s σ H Q I h
  refine UnaryOp_ (thn (ha pins s σ H _ I h) fun v s1 ⟨x, H1, I1, r1, q1⟩ => ?_)
  obtain ⟨c, rfl, q1⟩ := q1
  cases r1
  exact not_of (wpAny_truthy_bool ⟨.bl (!c), H1, I1, rfl, q1⟩)
/-- a if t else b -/
def tIf (t : TT) (ta tb : TE) : TE := fun σ H Q => t σ H fun c H1 => if c = true then ta σ H1 Q else tb σ H1 Q
theorem pe_ifExp {c : Expr} (hc : PT X c tA) (ha : PE X a ta) (hb : PE X b tb) : PE X (.IfExp c a b pos) (tIf tA ta tb) := by
  intro pins s σ H Q I h
  refine wpAny_IfExp (thn (hc pins s σ H _ I h) fun d s1 ⟨H1, I1, q1⟩ => ?_)
  cases d with
  | true => exact ha pins s1 σ H1 Q I1 q1
  | false => exact hb pins s1 σ H1 Q I1 q1
end
end L2

namespace L2
open PySem PySem.Spec PyProof.Rows

/-! ### a list, a tuple that is read: tracked, frozen, or an object of the module -/
def SqL (K : PySem.W.Frag) (H : Hp) (a : Addr) (xs : List V) : Prop :=
  Rd H a (.lst xs) ∨
    ∃ (o : Obj) (its : Array Value) (n : Nat), K.lookup a = some o ∧ o.cls = .type "list" ∧ o.dict = none ∧ o.data = .seq its n ∧ its.size ≤ sizeLine ∧ Vals xs its.toList
def SqT (K : PySem.W.Frag) (H : Hp) (a : Addr) (xs : List V) : Prop :=
  Rd H a (.tup xs) ∨
    ∃ (o : Obj) (its : Array Value) (n : Nat), K.lookup a = some o ∧ o.cls = .type "tuple" ∧ o.data = .seq its n ∧ its.size ≤ sizeLine ∧ Vals xs its.toList
def absV : Value → Option V
  | .none => some .non
  | .bool b => some (.bl b)
  | .int i _ => some (.int i)
  | .str x _ => some (.str x)
  | .bytes b _ => some (.byt b)
  | .float b _ => some (.flt b)
  | .ref a => some (.ref a)
  | .type n => some (.ty n)
  | _ => none
theorem RelV.abs {x : V} {u : Value} (r : RelV x u) : absV u = some x := by
  cases x with
  | non => cases r; rfl
  | bl _ => cases r; rfl
  | int _ => obtain ⟨t, rfl⟩ := r; rfl
  | str _ => obtain ⟨t, rfl⟩ := r; rfl
  | byt _ => obtain ⟨t, rfl⟩ := r; rfl
  | flt _ => obtain ⟨t, rfl⟩ := r; rfl
  | ref _ => cases r; rfl
  | ty _ => cases r; rfl
theorem RelV.inj {x y : V} {u : Value} (r : RelV x u) (q : RelV y u) : x = y := Option.some.inj (r.abs.symm.trans q.abs)
theorem Vals.inj : ∀ {xs ys : List V} {us : List Value}, Vals xs us → Vals ys us → xs = ys
  | _, _, _, .nil, .nil => rfl
  | _, _, _, .cons r t, .cons r' t' => by rw [r.inj r', Vals.inj t t']
section
variable {X : Cx} {pins : List (Addr × Obj)} {σ : St} {H : Hp} {s : Shared} {a : Addr} {xs ys : List V}
theorem SqL.of {K : PySem.W.Frag} (h : H a = some (.lst xs)) : SqL K H a xs := .inl (.inl h)
theorem SqT.of {K : PySem.W.Frag} (h : H a = some (.tup xs)) : SqT K H a xs := .inl (.inl h)
theorem Inv.list (I : Inv X pins σ H s) (h : SqL X.K H a xs) : ∃ its : List Value, Vals xs its ∧ PlainL s.heap a its.toArray ∧ xs.length ≤ sizeLine := by
  rcases h with h | ⟨o, its, n, hk, hc, hd, hs, hz, r⟩
  · obtain ⟨z, its, n, r, e⟩ := h.ok I.hok
    exact ⟨its, r, ⟨_, n, e, rfl, rfl, rfl⟩, z⟩
  · refine ⟨its.toList, r, ⟨o, n, I.kIn a o hk, hc, hd, by simpa using hs⟩, ?_⟩
    have e := r.length
    simp only [Array.length_toList] at e
    omega
theorem Inv.tuple (I : Inv X pins σ H s) (h : SqT X.K H a xs) : ∃ its : List Value, Vals xs its ∧ IsTup s.heap a its.toArray ∧ xs.length ≤ sizeLine := by
  rcases h with h | ⟨o, its, n, hk, hc, hs, hz, r⟩
  · obtain ⟨z, its, r, p⟩ := h.ok I.hok
    exact ⟨its, r, p, z⟩
  · refine ⟨its.toList, r, ⟨o, I.kIn a o hk, hc, n, by simpa using hs⟩, ?_⟩
    have e := r.length
    simp only [Array.length_toList] at e
    omega
theorem Inv.list_inj (I : Inv X pins σ H s) (h : SqL X.K H a xs) (h' : SqL X.K H a ys) : xs = ys := by
  obtain ⟨its, r, ⟨o, n, e, _, _, d⟩, _⟩ := I.list h
  obtain ⟨its', r', ⟨o', n', e', _, _, d'⟩, _⟩ := I.list h'
  rw [e] at e'; cases e'
  rw [d] at d'
  injection d' with d1 _
  have : its = its' := by simpa using congrArg Array.toList d1
  subst this
  exact r.inj r'
theorem Inv.tuple_inj (I : Inv X pins σ H s) (h : SqT X.K H a xs) (h' : SqT X.K H a ys) : xs = ys := by
  obtain ⟨its, r, ⟨o, e, _, n, d⟩, _⟩ := I.tuple h
  obtain ⟨its', r', ⟨o', e', _, n', d'⟩, _⟩ := I.tuple h'
  rw [e] at e'; cases e'
  rw [d] at d'
  injection d' with d1 _
  have : its = its' := by simpa using congrArg Array.toList d1
  subst this
  exact r.inj r'
end

/-! ### another wish about exceptions -/
abbrev Cx.wish (X : Cx) (E : Value → Shared → Prop) : Cx := { X with xe := E }
/-- no exception leaves -/
abbrev Cx.nox (X : Cx) : Cx := X.wish fun _ _ => False
theorem Cx.Ok.wish {X : Cx} (ok : X.Ok) (E : Value → Shared → Prop) : (X.wish E).Ok :=
  ⟨ok.mod, ok.kind, ok.glob, ok.blt, ok.above, ok.inj, ok.has, ok.cab, ok.hd, ok.frames, ok.stk, ok.exf, ok.bs, ok.bsz, ok.noex, ok.exfs, ok.funs, ok.frf⟩
theorem Cx.Ok.unwish {X : Cx} {E : Value → Shared → Prop} (ok : (X.wish E).Ok) : X.Ok :=
  ⟨ok.mod, ok.kind, ok.glob, ok.blt, ok.above, ok.inj, ok.has, ok.cab, ok.hd, ok.frames, ok.stk, ok.exf, ok.bs, ok.bsz, ok.noex, ok.exfs, ok.funs, ok.frf⟩
section
variable {X : Cx} {pins : List (Addr × Obj)} {σ : St} {H : Hp} {s : Shared} {E : Value → Shared → Prop}
theorem Inv.wish (I : Inv X pins σ H s) (E : Value → Shared → Prop) : Inv (X.wish E) pins σ H s := ⟨I.ok.wish E, I.os, I.bare, I.base, I.loc, I.cell, I.free, I.freeC, I.pin, I.hok, I.len⟩
theorem Inv.unwish (I : Inv (X.wish E) pins σ H s) : Inv X pins σ H s := ⟨I.ok.unwish, I.os, I.bare, I.base, I.loc, I.cell, I.free, I.freeC, I.pin, I.hok, I.len⟩
theorem SP.unwish {D : Ends} {f : Flow} {s' : Shared} (h : SP (X.wish E) pins D f s') : SP X pins D f s' := by
  cases f with
  | next => obtain ⟨σ', H', I, q⟩ := h; exact ⟨σ', H', I.unwish, q⟩
  | brk => obtain ⟨σ', H', I, q⟩ := h; exact ⟨σ', H', I.unwish, q⟩
  | cont => obtain ⟨σ', H', I, q⟩ := h; exact ⟨σ', H', I.unwish, q⟩
  | ret u => obtain ⟨v, σ', H', I, r, q⟩ := h; exact ⟨v, σ', H', I.unwish, r, q⟩
theorem PSs.nox {st : List Stmt} {t : TS} (h : PSs X.nox st t) : PSs X st t := fun pins s σ H D I hw =>
  wpAny_mono (h pins s σ H D (I.wish _) hw) (fun _ _ q => q.unwish) fun _ _ z => False.elim z
end

/-! ### blocks and small statements -/
section
variable {X : Cx} {st : Stmt} {rest : List Stmt} {t u : TS} {e : Expr} {te : TE} {pos : Pos}
def tNext : TS := fun D σ H => D.nx σ H
def tSeq (t u : TS) : TS := fun D σ H => t { D with nx := u D } σ H
theorem pss_nil : PSs X [] tNext := fun _ _ σ H _ I h => wpAny_execs_nil ⟨σ, H, I, h⟩
theorem pss_cons (h1 : PS X st t) (h2 : PSs X rest u) : PSs X (st :: rest) (tSeq t u) := by
  intro pins s σ H D I h
  refine wpAny_execs_cons (thn (h1 pins s σ H { D with nx := u D } I h) fun f s1 q => ?_)
  cases f with
  | next =>
    obtain ⟨σ', H', I', q⟩ := q
    exact h2 pins s1 σ' H' D I' q
  | ret v => exact q
  | brk => exact q
  | cont => exact q
theorem pss_one (h1 : PS X st t) : PSs X [st] t := by
  intro pins s σ H D I h
  refine wpAny_execs_cons (thn (h1 pins s σ H D I h) fun f s1 q => ?_)
  cases f with
  | next => exact wpAny_execs_nil q
  | ret v => exact q
  | brk => exact q
  | cont => exact q
def tBreak : TS := fun D σ H => D.bk σ H
def tCont : TS := fun D σ H => D.ct σ H
/-- in a def's body nothing is shown -/
theorem Inv.quiet {pins : List (Addr × Obj)} {σ : St} {H : Hp} {s : Shared} (I : Inv X pins σ H s) : interactive X.env = false := by simp [interactive, I.ok.kind]
/-- an expression whose value is dropped -/
def tDrop (te : TE) : TS := fun D σ H => te σ H fun _ H1 => D.nx σ H1
theorem ps_expr (he : PE X e te) (hs : swapsWith e none pos.line X.env = pure false := by rfl) : PS X (.Expr e pos) (tDrop te) := by
  intro pins s σ H D I h
  exact wpAny_Expr_any (thn (he pins s σ H _ I h) fun v s1 ⟨x, H1, I1, r1, q1⟩ => ⟨σ, H1, I1, q1⟩) I.quiet hs
def tRet (te : TE) : TS := fun D σ H => te σ H D.rt
theorem ps_ret (he : PE X e te) : PS X (.Return (some e) pos) (tRet te) := by
  intro pins s σ H D I h
  exact wpAny_Return_some (thn (he pins s σ H _ I h) fun v s1 ⟨x, H1, I1, r1, q1⟩ => ⟨x, σ, H1, I1, r1, q1⟩)
def tRetN : TS := fun D _ H => D.rt .non H
def tIfS (c : TT) (t u : TS) : TS := fun D σ H => c σ H fun b H1 => if b = true then t D σ H1 else u D σ H1
theorem ps_if {c : Expr} {a b : List Stmt} {tc : TT} (hc : PT X c tc) (ha : PSs X a t) (hb : PSs X b u) : PS X (.If c a b pos) (tIfS tc t u) := by
  intro pins s σ H D I h
  refine wpAny_If (thn (hc pins s σ H _ I h) fun d s1 ⟨H1, I1, q1⟩ => ?_)
  cases d with
  | true => exact ha pins s1 σ H1 D I1 q1
  | false => exact hb pins s1 σ H1 D I1 q1
/-- code that the proof never comes to -/
def tNever : TS := fun _ _ _ => False
end

/-! ### targets -/
abbrev TG := V → St → Hp → (St → Hp → Prop) → Prop
abbrev TGs := List V → St → Hp → (St → Hp → Prop) → Prop
def PG (X : Cx) (target : Expr) (t : TG) : Prop :=
  ∀ (pins : List (Addr × Obj)) (s : Shared) (σ : St) (H : Hp) (v : V) (u : Value) (Q : St → Hp → Prop), Inv X pins σ H s → RelV v u → t v σ H Q →
    wpAny (model X.prog X.w) X.A (assign target X.env u) (fun _ s' => ∃ σ' H', Inv X pins σ' H' s' ∧ Q σ' H') X.xe s
/-- several targets, one after another -/
def PGs (X : Cx) (ts : List Expr) (t : TGs) : Prop :=
  ∀ (pins : List (Addr × Obj)) (s : Shared) (σ : St) (H : Hp) (vs : List V) (us : List Value) (Q : St → Hp → Prop), Inv X pins σ H s → Vals vs us → t vs σ H Q →
    wpAny (model X.prog X.w) X.A (assignInOrder ((assignEach ts X.env).map (·.2)) us) (fun _ s' => ∃ σ' H', Inv X pins σ' H' s' ∧ Q σ' H') X.xe s
/-- o[i] = v, by values -/
abbrev TSet := V → V → V → Hp → (Hp → Prop) → Prop
def PSet (X : Cx) (t : TSet) : Prop :=
  ∀ (pins : List (Addr × Obj)) (s : Shared) (σ : St) (H : Hp) (o i v : V) (ov iv u : Value) (Q : Hp → Prop), Inv X pins σ H s → RelV o ov → RelV i iv → RelV v u → t o i v H Q →
    wpAny (model X.prog X.w) X.A (setItem ov iv u) (fun _ s' => ∃ H', Inv X pins σ H' s' ∧ Q H') X.xe s
/-- a op= b, by values -/
abbrev TIp := V → V → Hp → VK → Prop
def PIp (X : Cx) (op : Operator) (t : TIp) : Prop :=
  ∀ (pins : List (Addr × Obj)) (s : Shared) (σ : St) (H : Hp) (x y : V) (v u : Value) (Q : VK), Inv X pins σ H s → RelV x v → RelV y u → t x y H Q →
    wpAny (model X.prog X.w) X.A (inplaceOp op v u) (EP X pins σ Q) X.xe s
section
variable {X : Cx} {pos : Pos}
def gName (i : Nat) : TG := fun v σ H Q => Q (σ.set i (some v)) H
theorem pg_name {i : Nat} {x : Str} (hN : X.N.Nodup) (hi : X.N[i]? = some x) (hx : Loc X.env.scope x) (hf : X.fn x = true ∨ X.env.scope.names.lookup x = some .local := by first | exact .inl rfl | exact .inr rfl | assumption) : PG X (.Name x pos) (gName i) := by
  intro pins s σ H v u Q I r h
  exact wpAny_assign_Name (store_ok I hN hi hx r (fun s' I' => ⟨_, H, I', h⟩) hf)
def gNil : TGs := fun vs σ H Q => vs = [] ∧ Q σ H
def gCons (t : TG) (u : TGs) : TGs := fun vs σ H Q => ∃ v r, vs = v :: r ∧ t v σ H fun σ' H' => u r σ' H' Q
theorem pgs_nil : PGs X [] gNil := by
  intro pins s σ H vs us Q I r h
  obtain ⟨e, h⟩ := h
  subst e
  cases r
  exact assignInOrder_nil ⟨σ, H, I, h⟩
theorem pgs_cons {e : Expr} {es : List Expr} {t : TG} {u : TGs} (h1 : PG X e t) (h2 : PGs X es u)
    (hs : (assignEach (e :: es) X.env).map (·.2) = assign e X.env :: (assignEach es X.env).map (·.2) := by rfl) : PGs X (e :: es) (gCons t u) := by
  intro pins s σ H vs us Q I r h
  obtain ⟨v, vr, e1, h⟩ := h
  subst e1
  cases r with
  | cons r rr =>
    rw [hs]
    refine assignInOrder_cons (thn (h1 pins s σ H _ _ _ I r h) fun _ s1 ⟨σ1, H1, I1, q1⟩ => ?_)
    exact h2 pins s1 σ1 H1 _ _ Q I1 rr q1
/-- (a, b, ..) = a tuple of that length -/
def gTup (K : PySem.W.Frag) (n : Nat) (t : TGs) : TG := fun v σ H Q => ∃ a xs, v = .ref a ∧ SqT K H a xs ∧ xs.length = n ∧ t xs σ H Q
theorem pg_tup {es : List Expr} {k : Nat} {t : TGs} {n : Nat} (hc : X.calm = true) (h : PGs X es t)
    (hn : (assignEach es X.env).length = n := by rfl) (hst : (assignEach es X.env).findIdx? (·.1) = none := by rfl) : PG X (.Tuple es k pos) (gTup X.K n t) := by
  intro pins s σ H v u Q I r hw
  obtain ⟨a, xs, e1, hq, hl, hw⟩ := hw
  subst e1
  cases r
  obtain ⟨its, rv, ht, hz⟩ := I.tuple hq
  refine assign_Tuple_tuple (I.ok.hd hc) ht (by simp [hn, ← hl, rv.length]) hst fun h' hx => ?_
  have I1 : Inv X pins σ H { s with heap := h' } := I.kept (t' := s.toks) fun b o e => hx b o (Nat.ne_of_lt (Heap.lt_size e)) e
  exact h pins _ σ H xs _ Q I1 (by simpa using rv) hw
/-- o[i] = .. -/
def gSub (to ti : TE) (t : TSet) : TG := fun v σ H Q => to σ H fun o H1 => ti σ H1 fun i H2 => t o i v H2 fun H3 => Q σ H3
/-- target = value -/
def tAsg (te : TE) (g : TG) : TS := fun D σ H => te σ H fun x H1 => g x σ H1 D.nx
theorem ps_asg {tg e : Expr} {te : TE} {g : TG} (he : PE X e te) (hg : PG X tg g) (hs : swapsWithSole [tg] e pos.line X.env = pure false := by rfl) (hw : swappedStores [tg] e X.env = pure none := by rfl)
    (h1 : (assignEach [tg] X.env).map (·.2) = [assign tg X.env] := by rfl) : PS X (.Assign [tg] e pos) (tAsg te g) := by
  intro pins s σ H D I h
  refine wpAny_Assign_stores (thn (he pins s σ H _ I h) fun v s1 ⟨x, H1, I1, r1, q1⟩ => ?_) hs hw
  rw [h1]
  exact thn (hg pins s1 σ H1 x v _ I1 r1 q1) fun _ s2 q => q
/-- name = value -/
theorem ps_set {i : Nat} {x : Str} {e : Expr} {te : TE} {pos' : Pos} (hN : X.N.Nodup) (hi : X.N[i]? = some x) (hx : Loc X.env.scope x) (he : PE X e te) (hs : swapsWith e (some (.Name x pos')) pos.line X.env = pure false := by rfl) (hf : X.fn x = true ∨ X.env.scope.names.lookup x = some .local := by first | exact .inl rfl | exact .inr rfl | assumption) :
    PS X (.Assign [.Name x pos'] e pos) (tAsg te (gName i)) := by
  intro pins s σ H D I h
  refine wpAny_Assign_Name (thn (he pins s σ H _ I h) fun v s1 ⟨y, H1, I1, r1, q1⟩ => ?_) hs
  exact store_ok I1 hN hi hx r1 (fun s2 I2 => ⟨_, H1, I2, q1⟩) hf
/-- a, b = x, y with plain local names: stored from the right; the pair itself is not tracked (the opening rows as in PyProof/Rows/TupAssign.lean:23) -/
def tPar (i j : Nat) (ta : TA) : TS := fun D σ H => ta σ H fun vs H1 => ∃ v w, vs = [v, w] ∧ D.nx ((σ.set i (some v)).set j (some w)) H1
/-- name op= e -/
def tAug (i : Nat) (te : TE) (ti : TIp) : TS := fun D σ H => ∃ x, σ[i]? = some (some x) ∧ te σ H fun y H1 => ti x y H1 fun z H2 => D.nx (σ.set i (some z)) H2
/-- o[i] op= e -/
def tAugS (to ti te : TE) (tget : V → V → Hp → VK → Prop) (tip : TIp) (tset : TSet) : TS := fun D σ H => to σ H fun o H1 => ti σ H1 fun i H2 => tget o i H2 fun x H3 => te σ H3 fun y H4 => tip x y H4 fun z H5 => tset o i z H5 fun H6 => D.nx σ H6
/-- o[i], by values -/
def PGet (X : Cx) (t : V → V → Hp → VK → Prop) : Prop :=
  ∀ (pins : List (Addr × Obj)) (s : Shared) (σ : St) (H : Hp) (o i : V) (ov iv : Value) (Q : VK), Inv X pins σ H s → RelV o ov → RelV i iv → t o i H Q →
    wpAny (model X.prog X.w) X.A (getItem ov iv) (EP X pins σ Q) X.xe s
/-- ints -/
def ipI (f : Int → Int → Int) : TIp := fun x y H Q => ∃ i j, x = .int i ∧ y = .int j ∧ Q (.int (f i j)) H
end

/-! ### while -/
section
variable {X : Cx} {pos : Pos}
/-- the invariant W with its measure -/
def tWhile (c : TT) (tb : TS) : TS := fun D σ H => ∃ W : Nat → St → Hp → Prop, (∃ m, W m σ H) ∧ ∀ m σ H, W m σ H →
  c σ H fun b H1 => if b = true then ∃ N : St → Hp → Prop, (∀ σ' H', N σ' H' → ∃ m', m' < m ∧ W m' σ' H') ∧ tb { D with nx := N, ct := N, bk := D.nx } σ H1 else D.nx σ H1
theorem ps_while {c : Expr} {body : List Stmt} {tc : TT} {tb : TS} (hp : PassesOwn (model X.prog X.w) X.A X.env X.xe) (hc : PT X c tc) (hb : PSs X body tb) : PS X (.While c body [] pos) (tWhile tc tb) := by
  intro pins s σ H D I h
  obtain ⟨W, ⟨m0, w0⟩, turn⟩ := h
  refine wpAny_While (codeAny_whileLoop (fun n s' => ∃ σ' H', Inv X pins σ' H' s' ∧ W n σ' H') ?_ m0 ⟨σ, H, I, w0⟩)
  rintro n s1 ⟨σ1, H1, I1, w1⟩
  refine wpAny_passesOwn hp (thn (hc pins s1 σ1 H1 _ I1 (turn n σ1 H1 w1)) fun b s2 ⟨H2, I2, q2⟩ => ?_)
  cases b with
  | true =>
    obtain ⟨N, hN, q2⟩ := q2
    rw [if_pos rfl]
    refine wpAny_passesOwn hp (thn (hb pins s2 σ1 H2 _ I2 q2) fun f s3 q3 => ?_)
    cases f with
    | next =>
      obtain ⟨σ3, H3, I3, n3⟩ := q3
      obtain ⟨m', hm, w3⟩ := hN σ3 H3 n3
      exact ⟨m', hm, σ3, H3, I3, w3⟩
    | cont =>
      obtain ⟨σ3, H3, I3, n3⟩ := q3
      obtain ⟨m', hm, w3⟩ := hN σ3 H3 n3
      exact ⟨m', hm, σ3, H3, I3, w3⟩
    | brk => exact q3
    | ret v => exact q3
  | false =>
    rw [if_neg Bool.false_ne_true]
    exact wpAny_execs_nil ⟨σ1, H2, I2, q2⟩
end

/-! ### what a loop or a comprehension walks -/
/-- at turn i: it yields x (the heap may grow), or it stops -/
structure It where
  go : Nat → Hp → Prop
  yld : Nat → Hp → V → Hp → Prop
  stop : Nat → Hp → Prop
/-- the iterator's own objects may turn: they are not the frame's, not pinned, younger than the entry (or a comprehension's own) -/
def FpOk (X : Cx) (pins : List (Addr × Obj)) (H : Hp) (b : Addr) : Prop :=
  H b = none ∧ b ≠ X.env.locals ∧ b ∉ X.fs ∧ (b ∈ X.ex ∨ X.s₀.heap.objs.size ≤ b) ∧ (∀ x c, X.env.cells.lookup x = some c → c ≠ b) ∧ ∀ p ∈ X.pn ++ pins, p.1 ≠ b
theorem Inv.fpOk {X : Cx} {pins : List (Addr × Obj)} {σ : St} {H H' : Hp} {s : Shared} {b : Addr} (I : Inv X pins σ H s) (hb : s.heap.objs.size ≤ b) (hn : H' b = none) : FpOk X pins H' b := by
  refine ⟨hn, Nat.ne_of_gt (Nat.lt_of_lt_of_le I.lt hb), I.nofs hb, .inr (Nat.le_trans I.sz hb), fun x c e z => ?_, fun p hp z => ?_⟩
  · obtain ⟨v, q⟩ := I.cell x c e
    exact absurd (Nat.lt_of_lt_of_le q.lt (by rw [z]; exact hb)) (Nat.lt_irrefl _)
  · exact absurd (Nat.lt_of_lt_of_le (Heap.lt_size (I.pin p hp).1) (by rw [z]; exact hb)) (Nat.lt_irrefl _)
structure Turn (P : Program) (w : World) (K : PySem.W.Frag) (tg : Expr) (J : It) (fp : List Addr) (it : Addr) (tn : Nat → Heap → Prop) : Prop where
  mem : it ∈ fp
  obj : ∀ i h, tn i h → ∀ b ∈ fp, ∃ o, h.get? b = some o ∧ ∀ v, o.data ≠ .cell v
  keep : ∀ i h h', tn i h → (∀ b ∈ fp, ∀ o, h.get? b = some o → h'.get? b = some o) → tn i h'
  item : ∀ (X : Cx), X.prog = P → X.w = w → X.K = K → X.calm = true → ∀ (i : Nat) (pins : List (Addr × Obj)) (s : Shared) (σ : St) (H : Hp) (E : Value → Shared → Prop), Inv X pins σ H s → (∀ b ∈ fp, FpOk X pins H b) → tn i s.heap → J.go i H →
    wpAny (model P w) X.A (pyNext (.ref it)) (fun r s1 => ∃ u, r = some u ∧
      wpAny (model P w) X.A (letOwnedTupleGo tg (.ref it) u) (fun _ s2 => ∃ x H', Inv X pins σ H' s2 ∧ RelV x u ∧ J.yld i H x H' ∧ tn (i + 1) s2.heap ∧ ∀ b ∈ fp, H' b = none) E s1) E s
  done : ∀ (X : Cx), X.prog = P → X.w = w → X.K = K → X.calm = true → ∀ (i : Nat) (pins : List (Addr × Obj)) (s : Shared) (σ : St) (H : Hp) (E : Value → Shared → Prop), Inv X pins σ H s → (∀ b ∈ fp, FpOk X pins H b) → tn i s.heap → J.stop i H →
    wpAny (model P w) X.A (pyNext (.ref it)) (fun r s1 => r = none ∧ Inv X pins σ H s1) E s
  self : ∀ (A : Around) (i : Nat) (s : Shared) (Q : Value → Shared → Prop) (E : Value → Shared → Prop), tn i s.heap → Q (.ref it) s → wpAny (model P w) A (pyIter (.ref it)) Q E s
abbrev TI := St → Hp → (It → Hp → Prop) → Prop
/-- an iterator has come -/
def PIE (X : Cx) (pins : List (Addr × Obj)) (σ : St) (tg : Expr) (R : It → Hp → Prop) (itv : Value) (s2 : Shared) : Prop :=
  ∃ (it : Addr) (fp : List Addr) (tn : Nat → Heap → Prop) (J : It) (H' : Hp), itv = .ref it ∧ Inv X pins σ H' s2 ∧ Turn X.prog X.w X.K tg J fp it tn ∧ tn 0 s2.heap ∧ (∀ b ∈ fp, FpOk X pins H' b) ∧ R J H'
def PI (X : Cx) (tg iter : Expr) (wi : TI) : Prop :=
  ∀ (pins : List (Addr × Obj)) (s : Shared) (σ : St) (H : Hp) (R : It → Hp → Prop), Inv X pins σ H s → wi σ H R →
    wpAny (model X.prog X.w) X.A (eval iter X.env) (fun v s1 => wpAny (model X.prog X.w) X.A (pyIter v) (PIE X pins σ tg R) X.xe s1) X.xe s

/-- the step ahead of the store is nothing for an iterator that keeps no tuple -/
theorem go_of {M : Model} {A : Around} {E : Value → Shared → Prop} {s : Shared} {tg : Expr} {it : Addr} {u : Value} {o : Obj} {n : String} {vs : Array Value} {Q : Unit → Shared → Prop} (ho : s.heap.get? it = some o) (hc : o.cls = .type n) (hd : o.data = .fields vs)
    (hn : ["enumerate", "zip", "dict_itemiterator", "dict_reverseitemiterator", "odict_iterator", "itertools.zip_longest", "itertools.pairwise"].contains n = false) (hQ : Q () s) : wpAny M A (letOwnedTupleGo tg (.ref it) u) Q E s := by
  unfold letOwnedTupleGo
  cases tg <;> first
    | exact wpAny_pure hQ
    | (cases u <;> first
        | exact wpAny_pure hQ
        | (refine wpAny_bind (wpAny_load ho ?_)
           rw [hc, hd]
           show wpAny M A (if (["enumerate", "zip", "dict_itemiterator", "dict_reverseitemiterator", "odict_iterator", "itertools.zip_longest", "itertools.pairwise"].contains n && vs[0]? == some (rawInt _)) = true then _ else _) Q E s
           rw [if_neg (by intro h; rw [hn, Bool.false_and] at h; cases h)]
           exact wpAny_pure hQ))

/-- the list at a, as it stands at each turn (a loop may append to it) -/
def Itl (K : PySem.W.Frag) (a : Addr) : It :=
  ⟨fun i H => ∃ xs x, SqL K H a xs ∧ xs[i]? = some x, fun i H x H' => H' = H ∧ ∀ xs, SqL K H a xs → xs[i]? = some x, fun i H => ∃ xs, SqL K H a xs ∧ xs.length ≤ i⟩
def Itt (K : PySem.W.Frag) (a : Addr) : It :=
  ⟨fun i H => ∃ xs x, SqT K H a xs ∧ xs[i]? = some x, fun i H x H' => H' = H ∧ ∀ xs, SqT K H a xs → xs[i]? = some x, fun i H => ∃ xs, SqT K H a xs ∧ xs.length ≤ i⟩
/-- lo, lo + 1, .. (n of them) -/
def Itr (lo : Int) (n : Nat) : It := ⟨fun i _ => i < n, fun i H x H' => H' = H ∧ x = .int (lo + i), fun i _ => n ≤ i⟩
theorem turn_list {P : Program} {w : World} {K : PySem.W.Frag} {tg : Expr} (a it : Addr) : Turn P w K tg (Itl K a) [it] it (fun i h => h.IsListIter it a i) where
  mem := by simp
  obj := fun i h st b hb => by
    have e : b = it := by simpa using hb
    subst e
    obtain ⟨o, e, c, d⟩ := st
    exact ⟨o, e, fun v z => by rw [d] at z; cases z⟩
  keep := fun i h h' st k => st.at fun o e => k it (by simp) o e
  item := by
    intro X hP hw hK hc i pins s σ H E I hf st hg
    subst hP hw hK
    obtain ⟨xs, x, hq, hx⟩ := hg
    obtain ⟨its, rv, p, hz⟩ := I.list hq
    obtain ⟨u, hu, ru⟩ := rv.get hx
    obtain ⟨f0, f1, f2, f3, f4, f5⟩ := hf it (by simp)
    refine wpAny_pyNext_list_item st p.isList (x := u) (by simpa using hu) fun h' st' sb => ?_
    have I1 : Inv X pins σ H { s with heap := h' } := I.turned (t' := s.toks) (fun b o hb e => (sb.2 b hb).trans e) f0 f1 f3 f4 f5
    obtain ⟨o, e, c, d⟩ := id st'
    exact ⟨u, rfl, go_of (s := { s with heap := h' }) e c d (by decide) ⟨x, H, I1, ru, ⟨rfl, fun ys hy => by rw [I.list_inj hy hq]; exact hx⟩, st', fun b hb => (hf b hb).1⟩⟩
  done := by
    intro X hP hw hK hc i pins s σ H E I hf st hg
    subst hP hw hK
    obtain ⟨xs, hq, hx⟩ := hg
    obtain ⟨its, rv, p, hz⟩ := I.list hq
    obtain ⟨f0, f1, f2, f3, f4, f5⟩ := hf it (by simp)
    have hl := rv.length
    exact wpAny_pyNext_list_end (I.ok.hd hc) st p.isList (by simp; omega) fun h' eb => ⟨rfl, I.turned (t' := s.toks) (fun b o hb e => eb b o hb e) f0 f1 f3 f4 f5⟩
  self := fun _ _ _ _ _ st h => wpAny_pyIter_listiter st h
theorem turn_tuple {P : Program} {w : World} {K : PySem.W.Frag} {tg : Expr} (a it : Addr) : Turn P w K tg (Itt K a) [it] it (fun i h => h.IsTupleIter it a i) where
  mem := by simp
  obj := fun i h st b hb => by
    have e : b = it := by simpa using hb
    subst e
    obtain ⟨o, e, c, d⟩ := st
    exact ⟨o, e, fun v z => by rw [d] at z; cases z⟩
  keep := fun i h h' st k => st.at fun o e => k it (by simp) o e
  item := by
    intro X hP hw hK hc i pins s σ H E I hf st hg
    subst hP hw hK
    obtain ⟨xs, x, hq, hx⟩ := hg
    obtain ⟨its, rv, p, hz⟩ := I.tuple hq
    obtain ⟨u, hu, ru⟩ := rv.get hx
    obtain ⟨f0, f1, f2, f3, f4, f5⟩ := hf it (by simp)
    refine wpAny_pyNext_tuple_item st (show s.heap.IsTuple a its.toArray from p) (x := u) (by simpa using hu) fun h' st' sb => ?_
    have I1 : Inv X pins σ H { s with heap := h' } := I.turned (t' := s.toks) (fun b o hb e => (sb.2 b hb).trans e) f0 f1 f3 f4 f5
    obtain ⟨o, e, c, d⟩ := id st'
    exact ⟨u, rfl, go_of (s := { s with heap := h' }) e c d (by decide) ⟨x, H, I1, ru, ⟨rfl, fun ys hy => by rw [I.tuple_inj hy hq]; exact hx⟩, st', fun b hb => (hf b hb).1⟩⟩
  done := by
    intro X hP hw hK hc i pins s σ H E I hf st hg
    subst hP hw hK
    obtain ⟨xs, hq, hx⟩ := hg
    obtain ⟨its, rv, p, hz⟩ := I.tuple hq
    obtain ⟨f0, f1, f2, f3, f4, f5⟩ := hf it (by simp)
    have hl := rv.length
    exact wpAny_pyNext_tuple_end (I.ok.hd hc) st (show s.heap.IsTuple a its.toArray from p) (by simp; omega) fun h' eb => ⟨rfl, I.turned (t' := s.toks) (fun b o hb e => eb b o hb e) f0 f1 f3 f4 f5⟩
  self := fun _ _ _ _ _ st h => wpAny_pyIter_tupleiter st h
theorem turn_range {P : Program} {w : World} {K : PySem.W.Frag} {tg : Expr} (it : Addr) (lo : Int) (n : Nat) : Turn P w K tg (Itr lo n) [it] it (fun i h => IsRangeIter h it (lo + (i : Nat) * 1) ((n : Int) - (i : Nat)) 1) where
  mem := by simp
  obj := fun i h st b hb => by
    have e : b = it := by simpa using hb
    subst e
    exact ⟨_, st, fun v z => by
      have z' : Data.fields _ = Data.cell v := z
      cases z'⟩
  keep := fun i h h' st k => k it (by simp) _ st
  item := by
    intro X hP hw hK hc i pins s σ H E I hf st hg
    subst hP hw hK
    obtain ⟨f0, f1, f2, f3, f4, f5⟩ := hf it (by simp)
    have W := Walks.range (prog := X.prog) (w := X.w) (I.ok.hd hc) it lo 1 n
    refine W.item i s _ _ hg st fun v h' tk hv st' kk => ?_
    obtain ⟨t, rfl⟩ := hv
    have I1 : Inv X pins σ H { s with heap := h', toks := tk } := I.turned (fun b o hb e => kk b o (by simpa using hb) e) f0 f1 f3 f4 f5
    refine ⟨_, rfl, go_of (s := { s with heap := h', toks := tk }) (n := "range_iterator") st' rfl rfl (by decide) ⟨.int (lo + i), H, I1, ⟨t, ?_⟩, ⟨rfl, rfl⟩, st', fun b hb => (hf b hb).1⟩⟩
    rw [Int.mul_one]
  done := by
    intro X hP hw hK hc i pins s σ H E I hf st hg
    subst hP hw hK
    obtain ⟨f0, f1, f2, f3, f4, f5⟩ := hf it (by simp)
    exact wpAny_pyNext_range_end (I.ok.hd hc) st (by have : n ≤ i := hg; omega) fun h' eb => ⟨rfl, I.turned (t' := s.toks) (fun b o hb e => eb b o hb e) f0 f1 f3 f4 f5⟩
  self := fun _ _ _ _ _ st h => wpAny_pyIter_rangeiter st h
end L2

namespace L2
open PySem PySem.Spec PyProof.Rows
section
variable {X : Cx} {tg : Expr}
def iList (K : PySem.W.Frag) (tl : TE) : TI := fun σ H R => tl σ H fun x H1 => ∃ a, x = .ref a ∧ (∃ xs, SqL K H1 a xs) ∧ R (Itl K a) H1
def iTup (K : PySem.W.Frag) (tl : TE) : TI := fun σ H R => tl σ H fun x H1 => ∃ a, x = .ref a ∧ (∃ xs, SqT K H1 a xs) ∧ R (Itt K a) H1
theorem pi_list {l : Expr} {tl : TE} (hl : PE X l tl) : PI X tg l (iList X.K tl) := by
  intro pins s σ H R I h
  refine thn (hl pins s σ H _ I h) fun v s1 ⟨x, H1, I1, r1, q1⟩ => ?_
  obtain ⟨a, e, ⟨xs, hq⟩, q⟩ := q1
  subst e
  cases r1
  obtain ⟨its, rv, p, hz⟩ := I1.list hq
  refine wpAny_pyIter_list p.isList ?_
  refine ⟨s1.heap.objs.size, [s1.heap.objs.size], _, _, H1, rfl, I1.kept (t' := s1.toks) fun b o e => Heap.get?_push_of_some _ e, turn_list a _, ⟨_, Heap.get?_push_size _ rfl, rfl, rfl⟩, fun b hb => ?_, q⟩
  have e : b = s1.heap.objs.size := by simpa using hb
  subst e
  exact I1.fpOk (Nat.le_refl _) (I1.hok.fresh (Nat.le_refl _))
theorem pi_tup {l : Expr} {tl : TE} (hl : PE X l tl) : PI X tg l (iTup X.K tl) := by
  intro pins s σ H R I h
  refine thn (hl pins s σ H _ I h) fun v s1 ⟨x, H1, I1, r1, q1⟩ => ?_
  obtain ⟨a, e, ⟨xs, hq⟩, q⟩ := q1
  subst e
  cases r1
  obtain ⟨its, rv, p, hz⟩ := I1.tuple hq
  refine wpAny_pyIter_tuple (show s1.heap.IsTuple a its.toArray from p) ?_
  refine ⟨s1.heap.objs.size, [s1.heap.objs.size], _, _, H1, rfl, I1.kept (t' := s1.toks) fun b o e => Heap.get?_push_of_some _ e, turn_tuple a _, ⟨_, Heap.get?_push_size _ rfl, rfl, rfl⟩, fun b hb => ?_, q⟩
  have e : b = s1.heap.objs.size := by simpa using hb
  subst e
  exact I1.fpOk (Nat.le_refl _) (I1.hok.fresh (Nat.le_refl _))
/-- a range object just made, walked -/
theorem range_it {pins : List (Addr × Obj)} {σ : St} {H : Hp} {s : Shared} {R : It → Hp → Prop} {E : Value → Shared → Prop} {lo hi : Int} {t u v : Tok} {tk : Nat} (I : Inv X pins σ H s) (h1 : -(2 ^ 62) ≤ lo) (h2 : lo < 2 ^ 62) (h3 : -(2 ^ 62) ≤ hi) (h4 : hi < 2 ^ 62)
    (q : R (Itr lo (hi - lo).toNat) H) : wpAny (model X.prog X.w) X.A (pyIter (.ref s.heap.objs.size)) (PIE X pins σ tg R) E { s with heap := s.heap.push { cls := .type "range", data := .fields #[.int lo t, .int hi u, .int 1 v] }, toks := tk } := by
  refine wpAny_pyIter_range (IsRange.new ..) (small_one h1 h2 h3 h4) ?_
  have I1 : Inv X pins σ H { s with heap := s.heap.push { cls := .type "range", data := .fields #[.int lo t, .int hi u, .int 1 v] }, toks := tk } := I.kept fun b o e => Heap.get?_push_of_some _ e
  refine ⟨(s.heap.push { cls := .type "range", data := .fields #[.int lo t, .int hi u, .int 1 v] }).objs.size, [(s.heap.push { cls := .type "range", data := .fields #[.int lo t, .int hi u, .int 1 v] }).objs.size], _, _, H, rfl,
    I1.kept (t' := tk) fun b o e => Heap.get?_push_of_some _ e, turn_range _ lo (hi - lo).toNat, ?_, fun b hb => ?_, q⟩
  · have e1 : lo + ((0 : Nat) : Int) * 1 = lo := by simp
    have e2 : (((hi - lo).toNat : Nat) : Int) - ((0 : Nat) : Int) = Builtin.Range.rangeSize lo hi 1 := by rw [rangeSize_one]; split <;> omega
    show IsRangeIter _ _ (lo + ((0 : Nat) : Int) * 1) ((((hi - lo).toNat : Nat) : Int) - ((0 : Nat) : Int)) 1
    rw [e1, e2]
    exact Heap.get?_push_size _ rfl
  · have e : b = (s.heap.push { cls := .type "range", data := .fields #[.int lo t, .int hi u, .int 1 v] }).objs.size := by simpa using hb
    subst e
    exact I1.fpOk (Nat.le_refl _) (I1.hok.fresh (Nat.le_refl _))
def iRng1 (ta : TA) : TI := fun σ H R => ta σ H fun vs H1 => ∃ j : Int, vs = [.int j] ∧ -(2 ^ 62) ≤ j ∧ j < 2 ^ 62 ∧ R (Itr 0 j.toNat) H1
def iRng2 (ta : TA) : TI := fun σ H R => ta σ H fun vs H1 => ∃ i j : Int, vs = [.int i, .int j] ∧ (-(2 ^ 62) ≤ i ∧ i < 2 ^ 62 ∧ -(2 ^ 62) ≤ j ∧ j < 2 ^ 62) ∧ R (Itr i (j - i).toNat) H1
theorem pi_range1 {a : Expr} {ta : TA} {p pos : Pos} (hg : Gl X "range") (hm : X.mg "range" = none) (ha : PA X [a] ta) (hs : starEach [a] X.env = [(false, eval a X.env)] := by rfl) : PI X tg (.Call (.Name "range" p) [a] [] pos) (iRng1 ta) := by
  intro pins s σ H R I h
  refine Call_ (ld_blt I hg hm boot_range (PyProof.Rows.callWith_type1 (thn (ha pos pins s σ H _ I h) fun us s1 ⟨vs, H1, I1, r1, q1⟩ => ?_) hs rfl))
  obtain ⟨j, e, q1, q2, q⟩ := q1
  subst e
  cases r1 with
  | cons r rr =>
    cases rr
    obtain ⟨t, rfl⟩ := r
    exact call_range_1 (range_it I1 (by omega) (by omega) q1 q2 (by simpa using q))
/-! ### for -/
/-- W: the invariant by the turn and a measure; N: what the body is to reach -/
def tFor (wi : TI) (g : TG) (tb : TS) : TS := fun D σ H => wi σ H fun J H1 => ∃ W : Nat → Nat → St → Hp → Prop, (∃ m, W 0 m σ H1) ∧ ∀ i m σ H, W i m σ H →
  (J.stop i H ∧ D.nx σ H) ∨ (J.go i H ∧ ∃ N : St → Hp → Prop, (∀ σ' H', N σ' H' → ∃ m', m' < m ∧ W (i + 1) m' σ' H') ∧ ∀ x H', J.yld i H x H' → g x σ H' fun σ2 H2 => tb { D with nx := N, ct := N, bk := D.nx } σ2 H2)
/-- the records at fp as they stand -/
def pinsAt (fp : List Addr) (h : Heap) : List (Addr × Obj) := fp.filterMap fun b => (h.get? b).map fun o => (b, o)
theorem mem_pinsAt {fp : List Addr} {h : Heap} {b : Addr} {o : Obj} (hb : b ∈ fp) (e : h.get? b = some o) : (b, o) ∈ pinsAt fp h := List.mem_filterMap.mpr ⟨b, hb, by rw [e]; rfl⟩
theorem of_pinsAt {fp : List Addr} {h : Heap} {p : Addr × Obj} (hp : p ∈ pinsAt fp h) : p.1 ∈ fp ∧ h.get? p.1 = some p.2 := by
  obtain ⟨b, hb, e⟩ := List.mem_filterMap.mp hp
  cases q : h.get? b with
  | none => rw [q] at e; cases e
  | some o =>
    rw [q] at e
    have e' : (b, o) = p := Option.some.inj e
    subst e'
    exact ⟨hb, q⟩
theorem Inv.pinned {pins : List (Addr × Obj)} {σ : St} {H : Hp} {s : Shared} {fp : List Addr} (I : Inv X pins σ H s) (hf : ∀ b ∈ fp, FpOk X pins H b) (ho : ∀ b ∈ fp, ∃ o, s.heap.get? b = some o ∧ ∀ v, o.data ≠ .cell v) : Inv X (pins ++ pinsAt fp s.heap) σ H s :=
  I.pins_of fun p hp => (List.mem_append.mp hp).elim (fun z => I.pin p (List.mem_append_right _ z)) fun z => by
    obtain ⟨hb, e⟩ := of_pinsAt z
    obtain ⟨f0, f1, f2, _⟩ := hf p.1 hb
    obtain ⟨o, e', d⟩ := ho p.1 hb
    rw [e] at e'; cases e'
    exact ⟨e, f0, f1, f2, d⟩
theorem Inv.unpinned {pins pl : List (Addr × Obj)} {σ : St} {H : Hp} {s : Shared} (I : Inv X (pins ++ pl) σ H s) : Inv X pins σ H s := I.pins_of fun p hp => I.pin p (List.mem_append_right _ (List.mem_append_left _ hp))
theorem ps_for {iter : Expr} {body : List Stmt} {wi : TI} {g : TG} {tb : TS} {pos : Pos} (hp : PassesOwn (model X.prog X.w) X.A X.env X.xe) (hc : X.calm = true) (hi : PI X tg iter wi) (hg : PG X tg g) (hb : PSs X body tb)
    (hs : ∀ x, foldedSetIterable iter X.env x = pure x := by intro _; rfl) : PS X (.For tg iter body [] pos) (tFor wi g tb) := by
  intro pins s σ H D I h
  refine wpAny_For (thn (hi pins s σ H _ I h) fun v s1 h1 => thn h1 fun itv s2 h2 => ?_) hs
  obtain ⟨it, fp, tn, J, H2, e, I2, T, st2, f2, W, ⟨m0, w0⟩, turn⟩ := h2
  subst e
  -- what stays true of the iterator's objects through the loop
  have stat : ∀ {H' : Hp}, (∀ b ∈ fp, H' b = none) → ∀ b ∈ fp, FpOk X pins H' b := fun hn b hb => ⟨hn b hb, (f2 b hb).2⟩
  refine codeAny_forLoop_any (fun n s' => ∃ i σ' H', Inv X pins σ' H' s' ∧ tn i s'.heap ∧ (∀ b ∈ fp, H' b = none) ∧ W i n σ' H') ?_ m0 ⟨0, σ, H2, I2, st2, fun b hb => (f2 b hb).1, w0⟩
  rintro n s3 ⟨i, σ3, H3, I3, st3, fr3, w3⟩
  rcases turn i n σ3 H3 w3 with ⟨stop, qn⟩ | ⟨go, N, hN, step⟩
  · refine wpAny_passesOwn hp (thn (T.done X rfl rfl rfl hc i pins s3 σ3 H3 X.xe I3 (stat fr3) st3 stop) fun r s4 ⟨hr, I4⟩ => ?_)
    subst hr
    exact wpAny_execs_nil ⟨σ3, H3, I4, qn⟩
  · refine wpAny_passesOwn hp (thn (T.item X rfl rfl rfl hc i pins s3 σ3 H3 X.xe I3 (stat fr3) st3 go) fun r s4 ⟨u, hr, h4⟩ => ?_)
    subst hr
    refine wpAny_passesOwn hp (thn h4 fun _ s5 ⟨x, H5, I5, r5, y5, st5, fr5⟩ => ?_)
    have I5' := I5.pinned (stat fr5) (T.obj _ _ st5)
    refine wpAny_passesOwn hp (thn (hg _ s5 σ3 H5 x u _ I5' r5 (step x H5 y5)) fun _ s6 ⟨σ6, H6, I6, q6⟩ => ?_)
    refine wpAny_passesOwn hp (thn (hb _ s6 σ6 H6 _ I6 q6) fun f s7 q7 => ?_)
    have again : ∀ {σ7 : St} {H7 : Hp}, Inv X (pins ++ pinsAt fp s5.heap) σ7 H7 s7 → N σ7 H7 → ∃ m, m < n ∧ ∃ i σ' H', Inv X pins σ' H' s7 ∧ tn i s7.heap ∧ (∀ b ∈ fp, H' b = none) ∧ W i m σ' H' := fun {σ7 H7} I7 n7 => by
      obtain ⟨m', hm, w7⟩ := hN σ7 H7 n7
      refine ⟨m', hm, i + 1, σ7, H7, I7.unpinned, T.keep _ _ _ st5 fun b hb o e => (I7.pin (b, o) (List.mem_append_right _ (List.mem_append_right _ (mem_pinsAt hb e)))).1, fun b hb => ?_, w7⟩
      obtain ⟨o, e, d⟩ := T.obj _ _ st5 b hb
      exact (I7.pin (b, o) (List.mem_append_right _ (List.mem_append_right _ (mem_pinsAt hb e)))).2.1
    cases f with
    | next => obtain ⟨σ7, H7, I7, n7⟩ := q7; exact again I7 n7
    | cont => obtain ⟨σ7, H7, I7, n7⟩ := q7; exact again I7 n7
    | brk => obtain ⟨σ7, H7, I7, q7⟩ := q7; exact ⟨σ7, H7, I7.unpinned, q7⟩
    | ret v => obtain ⟨x7, σ7, H7, I7, r7, q7⟩ := q7; exact ⟨x7, σ7, H7, I7.unpinned, r7, q7⟩
end

/-! ### the forms one uses -/
/-- over a list that the body leaves as it is -/
theorem for_list {K : PySem.W.Frag} {a : Addr} {xs : List V} {g : TG} {tb : TS} {D : Ends} {σ : St} {H : Hp} (Pv : Nat → St → Hp → Prop) (h0 : Pv 0 σ H) (hl : ∀ i σ H, i ≤ xs.length → Pv i σ H → SqL K H a xs)
    (hs : ∀ i x σ H, xs[i]? = some x → Pv i σ H → g x σ H fun σ2 H2 => tb { D with nx := Pv (i + 1), ct := Pv (i + 1), bk := D.nx } σ2 H2) (hd : ∀ σ H, Pv xs.length σ H → D.nx σ H) :
    ∃ W : Nat → Nat → St → Hp → Prop, (∃ m, W 0 m σ H) ∧ ∀ i m σ H, W i m σ H →
      ((Itl K a).stop i H ∧ D.nx σ H) ∨ ((Itl K a).go i H ∧ ∃ N : St → Hp → Prop, (∀ σ' H', N σ' H' → ∃ m', m' < m ∧ W (i + 1) m' σ' H') ∧ ∀ x H', (Itl K a).yld i H x H' → g x σ H' fun σ2 H2 => tb { D with nx := N, ct := N, bk := D.nx } σ2 H2) := by
  refine ⟨fun i m σ H => m = xs.length - i ∧ i ≤ xs.length ∧ Pv i σ H, ⟨xs.length, by simp, Nat.zero_le _, h0⟩, ?_⟩
  rintro i m σ H ⟨rfl, hi, p⟩
  have q := hl i σ H hi p
  by_cases hlt : i < xs.length
  · refine .inr ⟨⟨xs, xs[i], q, by simp [hlt]⟩, Pv (i + 1), fun σ' H' p' => ⟨xs.length - (i + 1), by omega, rfl, hlt, p'⟩, fun x H' y => ?_⟩
    obtain ⟨e, y⟩ := y
    subst e
    exact hs i x σ _ (y xs q) p
  · have e : i = xs.length := by omega
    subst e
    exact .inl ⟨⟨xs, q, Nat.le_refl _⟩, hd σ H p⟩
end L2

namespace L2
open PySem PySem.Spec PyProof.Rows

abbrev R2 := V → V → Hp → VK → Prop
/-- a two-place operation on values: f is binaryOp op, inplaceOp op or compareOp op -/
def OpR (X : Cx) (f : Value → Value → Sem Value) (r : R2) : Prop :=
  ∀ (pins : List (Addr × Obj)) (s : Shared) (σ : St) (H : Hp) (x y : V) (v u : Value) (Q : VK), Inv X pins σ H s → RelV x v → RelV y u → r x y H Q →
    wpAny (model X.prog X.w) X.A (f v u) (EP X pins σ Q) X.xe s
/-- a one-place operation -/
def UnR (X : Cx) (f : Value → Sem Value) (r : V → Hp → VK → Prop) : Prop :=
  ∀ (pins : List (Addr × Obj)) (s : Shared) (σ : St) (H : Hp) (x : V) (v : Value) (Q : VK), Inv X pins σ H s → RelV x v → r x H Q →
    wpAny (model X.prog X.w) X.A (f v) (EP X pins σ Q) X.xe s
/-- a call of a value that is known (a builtin, a type) with values -/
def CallR (X : Cx) (f : Value) (r : List V → Hp → VK → Prop) : Prop :=
  ∀ (pins : List (Addr × Obj)) (s : Shared) (σ : St) (H : Hp) (xs : List V) (us : List Value) (Q : VK), Inv X pins σ H s → Vals xs us → r xs H Q →
    wpAny (model X.prog X.w) X.A (call f us) (EP X pins σ Q) X.xe s
/-- a value's truth -/
def TruR (X : Cx) (r : V → Hp → (Bool → Hp → Prop) → Prop) : Prop :=
  ∀ (pins : List (Addr × Obj)) (s : Shared) (σ : St) (H : Hp) (x : V) (v : Value) (Q : Bool → Hp → Prop), Inv X pins σ H s → RelV x v → r x H Q →
    wpAny (model X.prog X.w) X.A (truthy v) (TP X pins σ Q) X.xe s

def tOp (r : R2) (ta tb : TE) : TE := fun σ H Q => ta σ H fun x H1 => tb σ H1 fun y H2 => r x y H2 Q
def tUn (r : V → Hp → VK → Prop) (ta : TE) : TE := fun σ H Q => ta σ H fun x H1 => r x H1 Q
/-- ints in, under C, and a value out -/
def rI (C : Int → Int → Prop) (g : Int → Int → V) : R2 := fun x y H Q => ∃ i j, x = .int i ∧ y = .int j ∧ C i j ∧ Q (g i j) H
def rI0 (g : Int → Int → V) : R2 := fun x y H Q => ∃ i j, x = .int i ∧ y = .int j ∧ Q (g i j) H
def rU (g : Int → V) : V → Hp → VK → Prop := fun x H Q => ∃ i, x = .int i ∧ Q (g i) H

section
variable {X : Cx} {a b c : Expr} {ta tb tc : TE} {pos : Pos}

theorem binT (ha : PE X a ta) (hb : PE X b tb) {pins : List (Addr × Obj)} {s : Shared} {σ : St} {H : Hp} {R : V → V → Hp → Prop} (I : Inv X pins σ H s)
    (h : ta σ H fun x H1 => tb σ H1 fun y H2 => R x y H2) {Q : Value → Shared → Prop} {f : Value → Value → Sem Value}
    (hf : ∀ v u s2 x y H2, Inv X pins σ H2 s2 → RelV x v → RelV y u → R x y H2 → wpAny (model X.prog X.w) X.A (f v u) Q X.xe s2) :
    wpAny (model X.prog X.w) X.A (eval a X.env) (fun v s₁ => wpAny (model X.prog X.w) X.A (eval b X.env) (fun u s₂ => wpAny (model X.prog X.w) X.A (f v u) Q X.xe s₂) X.xe s₁) X.xe s := by
  refine thn (ha pins s σ H _ I h) fun v s1 ⟨x, H1, I1, r1, q1⟩ => ?_
  refine thn (hb pins s1 σ H1 _ I1 q1) fun u s2 ⟨y, H2, I2, r2, q2⟩ => ?_
  exact hf v u s2 x y H2 I2 r1 r2 q2

theorem pe_op {op : Operator} {r : R2} (ho : OpR X (binaryOp op) r) (ha : PE X a ta) (hb : PE X b tb) : PE X (.BinOp a op b pos) (tOp r ta tb) := by
  intro pins s σ H Q I h
  exact wpAny_BinOp (binT ha hb I h fun v u s2 x y H2 I2 rx ry q => ho pins s2 σ H2 x y v u Q I2 rx ry q)
/-! ### ints -/
theorem opI {f : Value → Value → Sem Value} {C : Int → Int → Prop} {g : Int → Int → Int}
    (rule : ∀ (i j : Int) (t u : Tok) (s : Shared) (Q : Value → Shared → Prop) (E : Value → Shared → Prop), C i j → Q (.int (g i j) s.toks) { s with toks := s.toks + 1 } → wpAny (model X.prog X.w) X.A (f (.int i t) (.int j u)) Q E s) :
    OpR X f (rI C fun i j => .int (g i j)) := by
  intro pins s σ H x y v u Q I rx ry h
  obtain ⟨i, j, rfl, rfl, hc, q⟩ := h
  obtain ⟨t, rfl⟩ := rx
  obtain ⟨t', rfl⟩ := ry
  exact rule i j t t' s _ _ hc ⟨.int (g i j), H, I.tok _, ⟨_, rfl⟩, q⟩
theorem opI0 {f : Value → Value → Sem Value} {g : Int → Int → Int}
    (rule : ∀ (i j : Int) (t u : Tok) (s : Shared) (Q : Value → Shared → Prop) (E : Value → Shared → Prop), Q (.int (g i j) s.toks) { s with toks := s.toks + 1 } → wpAny (model X.prog X.w) X.A (f (.int i t) (.int j u)) Q E s) :
    OpR X f (rI0 fun i j => .int (g i j)) := by
  intro pins s σ H x y v u Q I rx ry h
  obtain ⟨i, j, rfl, rfl, q⟩ := h
  obtain ⟨t, rfl⟩ := rx
  obtain ⟨t', rfl⟩ := ry
  exact rule i j t t' s _ _ ⟨.int (g i j), H, I.tok _, ⟨_, rfl⟩, q⟩
theorem opB0 {f : Value → Value → Sem Value} {g : Int → Int → Bool}
    (rule : ∀ (i j : Int) (t u : Tok) (s : Shared) (Q : Value → Shared → Prop) (E : Value → Shared → Prop), Q (.bool (g i j)) s → wpAny (model X.prog X.w) X.A (f (.int i t) (.int j u)) Q E s) :
    OpR X f (rI0 fun i j => .bl (g i j)) := by
  intro pins s σ H x y v u Q I rx ry h
  obtain ⟨i, j, rfl, rfl, q⟩ := h
  obtain ⟨t, rfl⟩ := rx
  obtain ⟨t', rfl⟩ := ry
  exact rule i j t t' s _ _ ⟨.bl (g i j), H, I, rfl, q⟩

def CDiv (i j : Int) : Prop := 0 < j ∧ j < 1073741824
def CDivN (i j : Int) : Prop := j ≠ 0 ∧ j.natAbs < 1073741824
def CPow (i j : Int) : Prop := 0 ≤ j ∧ j ≤ 1000000 ∧ i.natAbs < 2 ^ 64
def CMul (i j : Int) : Prop := (-(2 ^ 64) < i ∧ i < 2 ^ 64) ∨ (-(2 ^ 64) < j ∧ j < 2 ^ 64)
theorem CMul.ok {i j : Int} (h : CMul i j) : IntMulOk i j := by
  rcases h with ⟨h1, h2⟩ | ⟨h1, h2⟩
  · exact .of_left (intBits_le_64 h1 h2)
  · exact .of_right (intBits_le_64 h1 h2)
theorem two_pow_nn (k : Nat) : (0 : Int) ≤ 2 ^ k := by
  rw [two_pow_cast]
  exact Int.natCast_nonneg _

theorem op_add : OpR X (binaryOp .Add) (rI0 fun i j => .int (i + j)) := opI0 fun _ _ _ _ _ _ _ q => add_int q
theorem op_sub : OpR X (binaryOp .Sub) (rI0 fun i j => .int (i - j)) := opI0 fun _ _ _ _ _ _ _ q => sub_int q
theorem op_mul : OpR X (binaryOp .Mult) (rI CMul fun i j => .int (i * j)) := opI fun _ _ _ _ _ _ _ hc q => mul_int q hc.ok
/-- % by a positive divisor of any size -/
theorem op_mod : OpR X (binaryOp .Mod) (rI (fun _ j => 0 < j) fun i j => .int (i % j)) := opI fun i j _ _ _ _ _ hc q => by
  have h1 : (0 : Int) < j := hc
  exact mod_int' (by omega) (by rw [Int.fmod_eq_emod_of_nonneg i (by omega)]; exact q)
theorem op_shl : OpR X (binaryOp .LShift) (rI CPow fun i j => .int (i * 2 ^ j.toNat)) := opI fun _ _ _ _ _ _ _ hc q => lshift_int_small hc.1 hc.2.1 hc.2.2 q
theorem op_shr : OpR X (binaryOp .RShift) (rI (fun _ j => 0 ≤ j) fun i j => .int (i / 2 ^ j.toNat)) := opI fun i j _ _ _ _ _ hc q =>
  rshift_int hc (by rw [Int.fdiv_eq_ediv_of_nonneg i (two_pow_nn _)]; exact q)
theorem op_and : OpR X (binaryOp .BitAnd) (rI0 fun i j => .int (Builtin.bitAnd i j)) := opI0 fun _ _ _ _ _ _ _ q => and_int q
theorem op_or : OpR X (binaryOp .BitOr) (rI0 fun i j => .int (Builtin.bitOr i j)) := opI0 fun _ _ _ _ _ _ _ q => or_int q
/-! ### bools among ints: n += (a < b) -/
end

/-! ### comparisons -/
/-- the scalars that == tells apart as data does -/
def scal : V → V → Bool
  | .non, .non => true | .non, .int _ => true | .int _, .non => true | .non, .bl _ => true | .bl _, .non => true | .non, .str _ => true | .str _, .non => true
  | .int _, .int _ => true | .bl _, .bl _ => true | .str _, .str _ => true | .byt _, .byt _ => true
  | .int _, .str _ => true | .str _, .int _ => true | .bl _, .str _ => true | .str _, .bl _ => true
  | _, _ => false
def rEq : R2 := fun x y H Q => scal x y = true ∧ Q (.bl (decide (x = y))) H
def rNe : R2 := fun x y H Q => scal x y = true ∧ Q (.bl (!decide (x = y))) H

theorem dec_int {i j : Int} : decide (V.int i = V.int j) = (i == j) := by
  rw [Bool.eq_iff_iff]
  simp
theorem dec_bl {i j : Bool} : decide (V.bl i = V.bl j) = (i == j) := by
  rw [Bool.eq_iff_iff]
  simp
theorem dec_str {i j : Str} : decide (V.str i = V.str j) = (i == j) := by
  rw [Bool.eq_iff_iff]
  simp
theorem dec_byt {i j : Array UInt8} : decide (V.byt i = V.byt j) = (i.toList == j.toList) := by
  rw [Bool.eq_iff_iff]
  cases i
  cases j
  simp

section
variable {X : Cx} {a b c : Expr} {ta tb tc : TE} {pos : Pos}
theorem fin_bl {pins : List (Addr × Obj)} {σ : St} {H : Hp} {s : Shared} {Q : VK} {k k' : Bool} (I : Inv X pins σ H s) (q : Q (.bl k) H) (e : k = k') : EP X pins σ Q (.bool k') s := by
  subst e
  exact ⟨.bl k, H, I, rfl, q⟩
theorem op_eq : OpR X (compareOp .Eq) rEq := by
  intro pins s σ H x y v u Q I rx ry h
  obtain ⟨hs, q⟩ := h
  cases x with
  | non =>
    cases rx
    cases y with
    | non => cases ry; exact PySem.EqNone.eq_none_none (fin_bl I q (by simp))
    | bl j => cases ry; exact PySem.EqNone.eq_none_bool (fin_bl I q (by simp))
    | int j => obtain ⟨t', rfl⟩ := ry; exact PySem.EqNone.eq_none_int (fin_bl I q (by simp))
    | str j => obtain ⟨t', rfl⟩ := ry; exact PySem.EqNone.eq_none_str (fin_bl I q (by simp))
    | _ => exact absurd (show false = true from hs) Bool.false_ne_true
  | bl i =>
    cases rx
    cases y with
    | non => cases ry; exact PySem.EqNone.eq_bool_none (fin_bl I q (by simp))
    | bl j => cases ry; exact eq_bool (fin_bl I q dec_bl)
    | str j => obtain ⟨t', rfl⟩ := ry; exact PySem.EqMixed.eq_bool_str (fin_bl I q (by simp))
    | _ => exact absurd (show false = true from hs) Bool.false_ne_true
  | int i =>
    obtain ⟨t, rfl⟩ := rx
    cases y with
    | non => cases ry; exact PySem.EqNone.eq_int_none (fin_bl I q (by simp))
    | int j => obtain ⟨t', rfl⟩ := ry; exact eq_int (fin_bl I q dec_int)
    | str j => obtain ⟨t', rfl⟩ := ry; exact PySem.EqMixed.eq_int_str (fin_bl I q (by simp))
    | _ => exact absurd (show false = true from hs) Bool.false_ne_true
  | str i =>
    obtain ⟨t, rfl⟩ := rx
    cases y with
    | non => cases ry; exact PySem.EqNone.eq_str_none (fin_bl I q (by simp))
    | bl j => cases ry; exact PySem.EqMixed.eq_str_bool (fin_bl I q (by simp))
    | int j => obtain ⟨t', rfl⟩ := ry; exact PySem.EqMixed.eq_str_int (fin_bl I q (by simp))
    | str j => obtain ⟨t', rfl⟩ := ry; exact eq_str (fin_bl I q dec_str)
    | _ => exact absurd (show false = true from hs) Bool.false_ne_true
  | byt i =>
    obtain ⟨t, rfl⟩ := rx
    cases y with
    | byt j => obtain ⟨t', rfl⟩ := ry; exact PySem.W.eq_bytes (fin_bl I q dec_byt)
    | _ => exact absurd (show false = true from hs) Bool.false_ne_true
  | _ => cases y <;> exact absurd (show false = true from hs) Bool.false_ne_true
theorem op_ne : OpR X (compareOp .NotEq) rNe := by
  intro pins s σ H x y v u Q I rx ry h
  obtain ⟨hs, q⟩ := h
  cases x with
  | non =>
    cases rx
    cases y with
    | non => cases ry; exact PySem.EqNone.ne_none_none (fin_bl I q (by simp))
    | bl j => cases ry; exact PySem.EqNone.ne_none_bool (fin_bl I q (by simp))
    | int j => obtain ⟨t', rfl⟩ := ry; exact PySem.EqNone.ne_none_int (fin_bl I q (by simp))
    | str j => obtain ⟨t', rfl⟩ := ry; exact PySem.EqNone.ne_none_str (fin_bl I q (by simp))
    | _ => exact absurd (show false = true from hs) Bool.false_ne_true
  | bl i =>
    cases rx
    cases y with
    | non => cases ry; exact PySem.EqNone.ne_bool_none (fin_bl I q (by simp))
    | bl j => cases ry; exact ne_bool (fin_bl I q (congrArg not dec_bl))
    | str j => obtain ⟨t', rfl⟩ := ry; exact PySem.EqMixed.ne_bool_str (fin_bl I q (by simp))
    | _ => exact absurd (show false = true from hs) Bool.false_ne_true
  | int i =>
    obtain ⟨t, rfl⟩ := rx
    cases y with
    | non => cases ry; exact PySem.EqNone.ne_int_none (fin_bl I q (by simp))
    | int j => obtain ⟨t', rfl⟩ := ry; exact ne_int (fin_bl I q (congrArg not dec_int))
    | str j => obtain ⟨t', rfl⟩ := ry; exact PySem.EqMixed.ne_int_str (fin_bl I q (by simp))
    | _ => exact absurd (show false = true from hs) Bool.false_ne_true
  | str i =>
    obtain ⟨t, rfl⟩ := rx
    cases y with
    | non => cases ry; exact PySem.EqNone.ne_str_none (fin_bl I q (by simp))
    | bl j => cases ry; exact PySem.EqMixed.ne_str_bool (fin_bl I q (by simp))
    | int j => obtain ⟨t', rfl⟩ := ry; exact PySem.EqMixed.ne_str_int (fin_bl I q (by simp))
    | str j => obtain ⟨t', rfl⟩ := ry; exact ne_str (fin_bl I q (congrArg not dec_str))
    | _ => exact absurd (show false = true from hs) Bool.false_ne_true
  | byt i =>
    obtain ⟨t, rfl⟩ := rx
    cases y with
    | byt j => obtain ⟨t', rfl⟩ := ry; exact PySem.W.ne_bytes (fin_bl I q (congrArg not dec_byt))
    | _ => exact absurd (show false = true from hs) Bool.false_ne_true
  | _ => cases y <;> exact absurd (show false = true from hs) Bool.false_ne_true

theorem op_lt : OpR X (compareOp .Lt) (rI0 fun i j => .bl (decide (i < j))) := opB0 fun _ _ _ _ _ _ _ q => lt_int q
theorem op_gt : OpR X (compareOp .Gt) (rI0 fun i j => .bl (decide (j < i))) := opB0 fun _ _ _ _ _ _ _ q => gt_int q
theorem op_ge : OpR X (compareOp .GtE) (rI0 fun i j => .bl (decide (j ≤ i))) := opB0 fun _ _ _ _ _ _ _ q => ge_int q
/-- the one string within the other -/
theorem op_in_str : OpR X (compareOp .In) (fun x y H Q => ∃ i j, x = .str i ∧ y = .str j ∧ Q (.bl (!(Builtin.Str.occurrences j i 0 j.length 1).isEmpty)) H) := by
  intro pins s σ H x y v u Q I rx ry h
  obtain ⟨i, j, rfl, rfl, q⟩ := h
  obtain ⟨t, rfl⟩ := rx
  obtain ⟨t', rfl⟩ := ry
  exact in_str (fin_bl I q rfl)

/-- is None, is not None: the right side a value none -/
theorem op_isN : OpR X (compareOp .Is) (fun x y H Q => y = .non ∧ Q (.bl (decide (x = .non))) H) := by
  intro pins s σ H x y v u Q I rx ry h
  obtain ⟨rfl, q⟩ := h
  cases ry
  refine is_none_gen (fin_bl I q ?_)
  cases x <;> first
    | (cases rx; rfl)
    | (obtain ⟨t, rfl⟩ := rx; rfl)
theorem op_notN : OpR X (compareOp .IsNot) (fun x y H Q => y = .non ∧ Q (.bl (!decide (x = .non))) H) := by
  intro pins s σ H x y v u Q I rx ry h
  obtain ⟨rfl, q⟩ := h
  cases ry
  refine isnot_none_gen (fin_bl I q ?_)
  cases x <;> first
    | (cases rx; rfl)
    | (obtain ⟨t, rfl⟩ := rx; rfl)

theorem op_notin_str : OpR X (compareOp .NotIn) (fun x y H Q => ∃ i j, x = .str i ∧ y = .str j ∧ Q (.bl (!(!(Builtin.Str.occurrences j i 0 j.length 1).isEmpty))) H) := by
  intro pins s σ H x y v u Q I rx ry h
  obtain ⟨i, j, rfl, rfl, q⟩ := h
  obtain ⟨t, rfl⟩ := rx
  obtain ⟨t', rfl⟩ := ry
  exact notIn_str (fin_bl I q rfl)
/-- is, is not of two objects that are tracked lists or instances -/
def isObj : HO → Bool
  | .lst _ => true
  | .ins _ _ _ => true
  | _ => false
theorem nomark (b : Expr) {op : CmpOp} (h : op ≠ .In := by decide) (h2 : op ≠ .NotIn := by decide) : behindInMarks op b = false := by
  have e1 : (op == CmpOp.In) = false := by cases op <;> first | rfl | exact absurd rfl h
  have e2 : (op == CmpOp.NotIn) = false := by cases op <;> first | rfl | exact absurd rfl h2
  cases b <;> simp [behindInMarks, e1, e2]
/-- a comparison as a value; hm: nomark b, or (for in, not in) by with_unfolding_all rfl -/
theorem pe_cmpR {op : CmpOp} {r : R2} (ho : OpR X (compareOp op) r) (ha : PE X a ta) (hb : PE X b tb) (hm : behindInMarks op b = false) : PE X (.Compare a [op] [b] pos) (tOp r ta tb) := by
  intro pins s σ H Q I h
  exact wpAny_Compare1 (binT ha hb I h fun v u s2 x y H2 I2 rx ry q => ho pins s2 σ H2 x y v u Q I2 rx ry q) hm
/-- a reading of a value as a test -/
def tTest (t : TE) : TT := fun σ H Q => t σ H fun x H' => ∃ k, x = .bl k ∧ Q k H'
theorem pt_cmpR {op : CmpOp} {r : R2} (ho : OpR X (compareOp op) r) (ha : PE X a ta) (hb : PE X b tb) (hm : behindInMarks op b = false) : PT X (.Compare a [op] [b] pos) (tTest (tOp r ta tb)) := by
  intro pins s σ H Q I h
  refine wpAny_isTrue_Compare1 (thn (ha pins s σ H _ I h) fun v s1 ⟨x, H1, I1, r1, q1⟩ => thn (hb pins s1 σ H1 _ I1 q1) fun u s2 ⟨y, H2, I2, r2, q2⟩ =>
    thn (ho pins s2 σ H2 x y v u _ I2 r1 r2 q2) fun c s3 ⟨z, H3, I3, r3, k, e, q3⟩ => ?_) hm
  subst e
  cases r3
  exact wpAny_truthy_bool ⟨H3, I3, q3⟩
/-- a op1 b op2 c -/
def tChain (r r' : R2) (ta tb tc : TE) : TE := fun σ H Q => ta σ H fun x H1 => tb σ H1 fun y H2 => r x y H2 fun z H3 => ∃ k, z = .bl k ∧
  (if k = true then tc σ H3 fun w' H4 => r' y w' H4 Q else Q (.bl false) H3)
/-! ### truth -/
/-- a value's truth by the abstract heap -/
def TruV (K : PySem.W.Frag) (x : V) (H : Hp) (k : Bool) : Prop :=
  match x with
  | .non => k = false
  | .bl b => k = b
  | .int i => k = (i != 0)
  | .str y => y.length ≤ sizeLine ∧ k = ((y.length : Int) != 0)
  | .byt y => y.size ≤ sizeLine ∧ k = ((y.size : Int) != 0)
  | .ref p => (∃ xs, SqL K H p xs ∧ k = !xs.isEmpty) ∨ (∃ xs, SqT K H p xs ∧ k = !xs.isEmpty) ∨ ∃ kvs, H p = some (.dK kvs) ∧ k = !kvs.isEmpty
  | _ => False
theorem line63 : (sizeLine : Nat) < 2 ^ 63 := by rw [sizeLine_eq]; decide
/-! ### strs and bytes -/
theorem op_add_str : OpR X (binaryOp .Add) (fun x y H Q => ∃ i j, x = .str i ∧ y = .str j ∧ i.length + j.length ≤ sizeLine ∧ Q (.str (i ++ j)) H) := by
  intro pins s σ H x y v u Q I rx ry h
  obtain ⟨i, j, rfl, rfl, hz, q⟩ := h
  obtain ⟨t, rfl⟩ := rx
  obtain ⟨t', rfl⟩ := ry
  exact add_str (fun t' tk => ⟨.str (i ++ j), H, I.tok _, ⟨_, rfl⟩, q⟩) hz
def PlainIxT (b : Expr) : Prop := ∀ o i, subscripted b false o i = operate [o, i] (getItem o i)
/-! ### scalar builtins, by CallR -/
theorem vals1 {x : V} {us : List Value} (r : Vals [x] us) : ∃ u, us = [u] ∧ RelV x u := by
  cases r with
  | cons r1 r2 => cases r2; exact ⟨_, rfl, r1⟩
/-- len of a str, a bytes, a list, a tuple -/
def LenV (K : PySem.W.Frag) (x : V) (H : Hp) (n : Nat) : Prop :=
  match x with
  | .str y => y.length ≤ sizeLine ∧ n = y.length
  | .byt y => y.size ≤ sizeLine ∧ n = y.size
  | .ref p => (∃ xs, SqL K H p xs ∧ n = xs.length) ∨ ∃ xs, SqT K H p xs ∧ n = xs.length
  | _ => False
end
end L2

namespace L2
open PySem PySem.Spec PyProof.Rows

/-! ### an instance, its attributes a map -/
structure ObjM (h : Heap) (x dx C : Addr) (mA : Str → Option Value) : Prop where
  obj : h.get? x = some (PySem.W.instObj C dx)
  ns : h.Ns1 dx mA
  ne : dx ≠ x

theorem lookIn_ns {h : Heap} {dx : Addr} {mA : Str → Option Value} (n : h.Ns1 dx mA) : ∃ od, h.get? dx = some od ∧ ∀ name, PySem.W.lookIn name od = some (mA name) := by
  obtain ⟨o, es, ep, ho, hd, hk, _, hm⟩ := n
  refine ⟨o, ho, fun name => ?_⟩
  have e := hm name
  unfold nsFind findBy at e
  rw [← Array.find?_toList] at e
  unfold PySem.W.lookIn
  rw [hd]
  dsimp only
  split
  · rename_i y q
    rw [q] at e
    exact congrArg some e
  · rename_i q
    rw [q] at e
    have a : es.toList.any (·.refKey) = false := by
      rw [List.any_eq_false]
      intro y hy
      obtain ⟨z, t, hkey⟩ := hk y (Array.mem_toList_iff.mp hy)
      simp [DictEntry.refKey, hkey]
    have a' : ¬ es.toList.any (·.refKey) = true := by rw [a]; exact Bool.false_ne_true
    rw [if_neg a']
    exact congrArg some e

theorem ObjM.look {h : Heap} {x dx C : Addr} {mA : Str → Option Value} (I : ObjM h x dx C mA) : ∃ od, PySem.W.InstAt h x (PySem.W.instObj C dx) C (some od) ∧ ∀ name, PySem.W.lookIn name od = some (mA name) :=
  let ⟨od, ho, hl⟩ := lookIn_ns I.ns
  ⟨od, ⟨I.obj, rfl, rfl, ho⟩, hl⟩

section
variable {prog : Program} {w : World} {A : Around} {E : Value → Shared → Prop} {s : Shared} {K : PySem.W.Frag} {x dx C f : Addr} {mA : Str → Option Value} {name : Str} {v : Value}

theorem get_map {expr : Bool} {Q : Value → Shared → Prop} (X : K.In s.heap) (I : ObjM s.heap x dx C mA) (hg : PySem.W.plainGet K C name = true) (hh : PySem.W.hasDictIn K C = true)
    (ha : PySem.W.findIn K (.ref C) name = some none) (hv : mA name = some v) (hv' : PySem.W.handedIn v = true) (h : Q v { s with toks := s.toks + 1 }) :
    wpAny (model prog w) A (getAttr (.ref x) name expr) Q E s := by
  obtain ⟨od, J, hl⟩ := I.look
  exact PySem.W.get_value X J (PySem.W.plainGet_of hg).1 (PySem.W.findObj_own hh ha rfl (by rw [hl, hv])) hv' h

theorem get_meth {pl : Sem Bool} {Q : Value × List Value → Shared → Prop} (X : K.In s.heap) (I : ObjM s.heap x dx C mA) (hg : PySem.W.plainGet K C name = true)
    (hf : PySem.W.findIn K (.ref C) name = some (some (.ref f))) (ht : PySem.W.isFn K (.ref f) = true) (hv : mA name = none) (h : Q (.ref f, [.ref x]) s) :
    wpAny (model prog w) A (getMethod (.ref x) name pl) Q E s := by
  obtain ⟨od, J, hl⟩ := I.look
  exact PySem.W.method_fn X J (PySem.W.plainGet_of hg).1 (PySem.W.plainGet_of hg).2 hf (beq_iff_eq.mp ht) (by show (PySem.W.lookIn name od).map (·.isSome) = some false; rw [hl, hv]; rfl) h

theorem set_map {ns : List Str} {Q : Unit → Shared → Prop} (X : K.In s.heap) (I : ObjM s.heap x dx C mA)
    (hs : PySem.W.findIn K (.ref C) "__setattr__" = some (some (.builtin "object.__setattr__"))) (hp : PySem.W.plainOver K C = true) (ht : PySem.W.takerIn K C name = some none) (hh : PySem.W.hasDictIn K C = true)
    (hw : PySem.Within mA ns) (hsz : ns.length ≤ sizeLine)
    (h : ∀ h', ObjM h' x dx C (fun y => if y = name then some v else mA y) → Heap.SameBut dx s.heap h' → Q () { s with heap := h', toks := s.toks + 2 }) :
    wpAny (model prog w) A (setAttr (.ref x) name v) Q E s := by
  obtain ⟨od, J, hl⟩ := I.look
  refine PySem.W.set_plain X J hs (PySem.W.osa_open (s := { s with toks := s.toks + 1 }) (r := none) X J hp ht fun b => ?_)
  obtain ⟨cd, hc, hd'⟩ := PySem.W.any_some hh
  have hx : s.heap.get? x = some ⟨.ref C, some dx, .plain, #[]⟩ := I.obj
  refine wpAny_bind (wpAny_pure (wpAny_bind (wpAny_bind (wpAny_loadPart hx (wpAny_bind (PySem.W.Looks.here (s := { s with toks := s.toks + 1 }) (PySem.W.looks_clsIn X hc) ?_))))))
  rw [hd']
  refine wpAny_pure (a := some dx) (wpAny_bind (wpAny_pure (wpAny_bind ?_)))
  refine wpAny_nsSet1 (s := { s with toks := s.toks + 1 }) I.ns fun h' hn2 hs2 => ?_
  obtain ⟨oD, esD, epD, hoD, hdD, hcD⟩ := hn2.count (PySem.Within.cons name v hw)
  refine wpAny_bind (wpAny_lookBehind hoD (by rw [hdD]; exact pastItsLine_dict (Nat.le_trans hcD (by rw [List.length_cons]; omega))) ?_)
  exact wpAny_pure (h _ ⟨(hs2.2 _ (Ne.symm I.ne)).trans I.obj, hn2, I.ne⟩ hs2)

/-- C(..): the dict at the heap's end, the instance behind it; then its __init__ -/
theorem make_map {R : Result → Shared → Prop} {vs : List Value} {kw : List (Str × Value)} (X : K.In s.heap) (hm : PySem.W.makesIn K C = true)
    (hi : PySem.W.findIn K (.ref C) "__init__" = some (some (.ref f))) (hf : PySem.W.typeIn K (.ref f) = some (.type "function"))
    (h : codeAny (model prog w) (A.under (.builtin "type.__call__" ⟨.ref C :: vs, kw⟩)) (.call (.ref f) ⟨.ref (s.heap.objs.size + 1) :: vs, kw⟩) (PySem.W.InitBack (s.heap.objs.size + 1) R)
      { s with heap := (s.heap.push PySem.W.emptyDict).push (PySem.W.instObj C s.heap.objs.size) }) :
    codeAny (model prog w) A (.call (.ref C) ⟨vs, kw⟩) R s := by
  obtain ⟨hh, g, d, t, os⟩ := s
  exact PySem.W.make_core (PySem.W.makes_of X hm) (PySem.W.looks_findIn X hi) (fun self => PySem.W.bind_fn X self hf) (.inl rfl) h
end

/-! ### the attributes as a list of pairs -/
def putF (f : Str) (v : V) : List (Str × V) → List (Str × V)
  | [] => [(f, v)]
  | (g, x) :: r => if g = f then (g, v) :: r else (g, x) :: putF f v r
theorem lookup_putF (f g : Str) (v : V) : ∀ fs : List (Str × V), (putF f v fs).lookup g = if g = f then some v else fs.lookup g
  | [] => by
    show List.lookup g [(f, v)] = _
    by_cases h : g = f
    · have hb : (g == f) = true := beq_iff_eq.mpr h
      simp only [List.lookup, hb, if_pos h]
    · have hb : (g == f) = false := beq_eq_false_iff_ne.mpr h
      simp only [List.lookup, hb, if_neg h]
  | (k, x) :: r => by
    have ih := lookup_putF f g v r
    rw [show putF f v ((k, x) :: r) = (if k = f then (k, v) :: r else (k, x) :: putF f v r) from rfl]
    by_cases hk : k = f
    · rw [if_pos hk]
      by_cases h : g = k
      · have hb : (g == k) = true := beq_iff_eq.mpr h
        simp only [List.lookup, hb, if_pos (h.trans hk)]
      · have hb : (g == k) = false := beq_eq_false_iff_ne.mpr h
        simp only [List.lookup, hb, if_neg (fun e : g = f => h (e.trans hk.symm))]
    · rw [if_neg hk]
      by_cases h : g = k
      · have hb : (g == k) = true := beq_iff_eq.mpr h
        simp only [List.lookup, hb, if_neg (fun e : g = f => hk (h.symm.trans e))]
      · have hb : (g == k) = false := beq_eq_false_iff_ne.mpr h
        simp only [List.lookup, hb]
        exact ih
theorem keys_putF (f : Str) (v : V) : ∀ fs : List (Str × V), f ∈ (putF f v fs).map (·.1) ∧ ∀ g, g ∈ fs.map (·.1) → g ∈ (putF f v fs).map (·.1)
  | [] => ⟨by simp [putF], fun g h => by simp at h⟩
  | (k, x) :: r => by
    obtain ⟨i1, i2⟩ := keys_putF f v r
    rw [show putF f v ((k, x) :: r) = (if k = f then (k, v) :: r else (k, x) :: putF f v r) from rfl]
    by_cases hk : k = f
    · rw [if_pos hk]
      subst hk
      exact ⟨by simp, fun g h => by simpa using h⟩
    · rw [if_neg hk]
      refine ⟨?_, fun g h => ?_⟩
      · rw [List.map_cons]
        exact List.mem_cons_of_mem _ i1
      · rw [List.map_cons] at h ⊢
        rcases List.mem_cons.mp h with e | e
        · exact List.mem_cons.mpr (.inl e)
        · exact List.mem_cons_of_mem _ (i2 g e)
theorem length_putF (f : Str) (v : V) : ∀ fs : List (Str × V), (putF f v fs).length ≤ fs.length + 1
  | [] => by simp [putF]
  | (k, x) :: r => by
    have ih := length_putF f v r
    rw [show putF f v ((k, x) :: r) = (if k = f then (k, v) :: r else (k, x) :: putF f v r) from rfl]
    by_cases hk : k = f
    · rw [if_pos hk, List.length_cons, List.length_cons]; omega
    · rw [if_neg hk, List.length_cons, List.length_cons]; omega

theorem RelO.some_of {v : V} {o : Option Value} (r : RelO (some v) o) : ∃ u, o = some u ∧ RelV v u := by
  cases o with
  | none => exact (show False from r).elim
  | some u => exact ⟨u, rfl, r⟩
theorem RelO.none_of {o : Option Value} (r : RelO none o) : o = none := by
  cases o with
  | none => rfl
  | some u => exact (show False from r).elim
theorem handed_of {v : V} {u : Value} (r : RelV v u) : PySem.W.handedIn u = true := by
  cases v with
  | non => cases (show u = Value.none from r); rfl
  | bl b => cases (show u = Value.bool b from r); rfl
  | int i => obtain ⟨t, e⟩ := (show ∃ t, u = Value.int i t from r); cases e; rfl
  | str x => obtain ⟨t, e⟩ := (show ∃ t, u = Value.str x t from r); cases e; rfl
  | byt b => obtain ⟨t, e⟩ := (show ∃ t, u = Value.bytes b t from r); cases e; rfl
  | flt b => obtain ⟨t, e⟩ := (show ∃ t, u = Value.float b t from r); cases e; rfl
  | ref a => cases (show u = Value.ref a from r); rfl
  | ty n => cases (show u = Value.type n from r); rfl

section
variable {P : Program} {w : World} {H H' : Hp} {h h' : Heap} {a C dx : Addr} {fs fs' : List (Str × V)}
theorem ins_get (hok : HOk P w H h) (e : H a = some (.ins C dx fs)) : ∃ mA, ObjM h a dx C mA ∧ (∀ f, RelO (fs.lookup f) (mA f)) ∧ PySem.Within mA (fs.map (·.1)) ∧ fs.length ≤ 1000 ∧ H dx = some (.own a) := by
  obtain ⟨d, z, ne, ob, mA, n, r, q⟩ := (show ObjOk P w H h a (.ins C dx fs) from hok a _ e)
  exact ⟨mA, ⟨ob, n, ne⟩, r, q, z, d⟩
end

/-! ### what of the text a class must have -/
structure Cls (K : PySem.W.Frag) (C : Addr) : Prop where
  pg : PySem.W.plainGet K C Str.empty = true
  hd : PySem.W.hasDictIn K C = true
  po : PySem.W.plainOver K C = true
  sa : PySem.W.findIn K (.ref C) "__setattr__" = some (some (.builtin "object.__setattr__"))
theorem Cls.get {K : PySem.W.Frag} {C : Addr} (c : Cls K C) (f : Str) : PySem.W.plainGet K C f = true := c.pg
/-- no class of it has the name -/
def NoAttr (K : PySem.W.Frag) (C : Addr) (f : Str) : Prop := PySem.W.findIn K (.ref C) f = some none
theorem NoAttr.taker {K : PySem.W.Frag} {C : Addr} {f : Str} (n : NoAttr K C f) : PySem.W.takerIn K C f = some none := by
  unfold PySem.W.takerIn
  rw [show PySem.W.findIn K (.ref C) f = some none from n]
  rfl
/-- a constant of the class -/
structure Con (K : PySem.W.Frag) (C : Addr) (f : Str) (v : V) (u : Value) : Prop where
  at_ : PySem.W.findIn K (.ref C) f = some (some u)
  rel : RelV v u
  get : PySem.W.specialIn K u "__get__" = some none
  cp : PySem.W.copiedNames.contains f = false
/-- a method: a plain def of the class or of one above it -/
structure Meth (K : PySem.W.Frag) (C : Addr) (m : Str) (f : Addr) : Prop where
  at_ : PySem.W.findIn K (.ref C) m = some (some (.ref f))
  fn : PySem.W.isFn K (.ref f) = true
  kp : PySem.W.keepIn K (.ref f) = true

section
variable {X : Cx} {pins : List (Addr × Obj)} {σ : St} {H : Hp} {s : Shared} {a C dx : Addr} {fs : List (Str × V)} {f : Str} {v : V} {A : Around} {E : Value → Shared → Prop}

theorem getattr_ok {b : Bool} {Q : Value → Shared → Prop} (I : Inv X pins σ H s) (e : H a = some (.ins C dx fs)) (c : Cls X.K C) (n : NoAttr X.K C f) (l : fs.lookup f = some v)
    (h : ∀ u s', Inv X pins σ H s' → RelV v u → Q u s') : wpAny (model X.prog X.w) A (getAttr (.ref a) f b) Q E s := by
  obtain ⟨mA, O, r, _, _, _⟩ := ins_get I.hok e
  obtain ⟨u, hu, ru⟩ := RelO.some_of (v := v) (o := mA f) (by rw [← l]; exact r f)
  exact get_map I.kIn O (c.get f) c.hd n hu (handed_of ru) (h u _ (I.tok _) ru)

theorem getmeth_ok {m : Str} {g : Addr} {pl : Sem Bool} {Q : Value × List Value → Shared → Prop} (I : Inv X pins σ H s) (e : H a = some (.ins C dx fs)) (c : Cls X.K C) (k : Meth X.K C m g) (l : fs.lookup m = none)
    (h : Q (.ref g, [.ref a]) s) : wpAny (model X.prog X.w) A (getMethod (.ref a) m pl) Q E s := by
  obtain ⟨mA, O, r, _, _, _⟩ := ins_get I.hok e
  have hn : mA m = none := RelO.none_of (by rw [← l]; exact r m)
  exact get_meth I.kIn O (c.get m) k.at_ k.fn hn h

theorem setattr_ok {y : V} {u : Value} {Q : Unit → Shared → Prop} (I : Inv X pins σ H s) (e : H a = some (.ins C dx fs)) (c : Cls X.K C) (n : NoAttr X.K C f) (hl : fs.length < 1000) (ry : RelV y u)
    (h : ∀ s', Inv X pins σ (upd H a (.ins C dx (putF f y fs))) s' → Q () s') : wpAny (model X.prog X.w) A (setAttr (.ref a) f u) Q E s := by
  obtain ⟨mA, O, r, wi, _, ho⟩ := ins_get I.hok e
  have hz : (fs.map (·.1)).length ≤ sizeLine := by rw [List.length_map, sizeLine_eq]; omega
  refine set_map I.kIn O c.sa c.po n.taker c.hd wi hz fun h' O' sb => h _ ?_
  have hd : ∃ o, h'.get? dx = some o := let ⟨o, _, _, e', _⟩ := O'.ns; ⟨o, e'⟩
  refine I.write (x := a) (e := dx) (by rw [e]; exact True.intro) (.inr ho) (fun b q hb z => (sb.2 b hb).trans z) hd ?_
  refine ⟨by rw [upd_ne O.ne]; exact ho, ?_, O.ne, O'.obj, _, O'.ns, fun g => ?_, fun g hg => ?_⟩
  · have := length_putF f y fs; omega
  · show RelO ((putF f y fs).lookup g) (if g = f then some u else mA g)
    rw [lookup_putF]
    by_cases q : g = f
    · rw [if_pos q, if_pos q]; exact ry
    · rw [if_neg q, if_neg q]; exact r g
  · by_cases q : g = f
    · rw [q]; exact (keys_putF f y fs).1
    · refine (keys_putF f y fs).2 g (wi g fun z => hg ?_)
      show (if g = f then some u else mA g) = none
      rw [if_neg q]; exact z

/-- a new instance, tracked, without attributes -/
theorem Inv.made (I : Inv X pins σ H s) : Inv X pins σ (upd (upd H s.heap.objs.size (.own (s.heap.objs.size + 1))) (s.heap.objs.size + 1) (.ins C s.heap.objs.size []))
    { s with heap := (s.heap.push PySem.W.emptyDict).push (PySem.W.instObj C s.heap.objs.size) } := by
  have e1 : (s.heap.push PySem.W.emptyDict).get? s.heap.objs.size = some PySem.W.emptyDict := Heap.get?_push_size s.heap rfl
  have e2 : ((s.heap.push PySem.W.emptyDict).push (PySem.W.instObj C s.heap.objs.size)).get? (s.heap.objs.size + 1) = some (PySem.W.instObj C s.heap.objs.size) := by
    have := Heap.get?_push_size (s.heap.push PySem.W.emptyDict) (o := PySem.W.instObj C s.heap.objs.size) rfl
    rwa [Heap.size_push] at this
  have e3 : (s.heap.push PySem.W.emptyDict).Ns s.heap.objs.size (fun _ => none) := ⟨PySem.W.emptyDict, #[], _, e1, rfl, (fun e he => absurd he (by simp)), fun _ => rfl⟩
  have I1 := I.laid (a := s.heap.objs.size) (o := .own (s.heap.objs.size + 1)) (h' := s.heap.push PySem.W.emptyDict) (t' := s.toks) (fun b u q => Heap.get?_push_of_some _ q) (Nat.le_refl _) ⟨_, e1⟩
  refine I1.laid (a := s.heap.objs.size + 1) (o := .ins C s.heap.objs.size []) (t' := s.toks) (fun b u q => Heap.get?_push_of_some _ q) (Nat.le_of_eq (Heap.size_push _ _)) ?_
  have ne : s.heap.objs.size ≠ s.heap.objs.size + 1 := Nat.ne_of_lt (Nat.lt_succ_self _)
  refine ⟨by rw [upd_ne ne, upd_same], Nat.zero_le _, ne, e2, fun _ => none, (Heap.Ns1.of_empty e3).at fun o q => Heap.get?_push_of_some _ q, fun _ => True.intro, fun y hy => absurd rfl hy⟩

/-- e.f where nothing but the object is asked: through attributeBase (super) and the last hold -/
theorem attr_of {prog : Program} {w : World} {env : Env} {e : Expr} {f : Str} {pos : Pos} {s : Shared} {Q : Value → Shared → Prop} (hb : attributeBase e f env (eval e env) = eval e env)
    (h : wpAny (model prog w) A (eval e env) (fun o s₁ => wpAny (model prog w) A (getAttr o f true) Q E s₁) E s) : wpAny (model prog w) A (eval (.Attribute e f pos) env) Q E s :=
  Attribute_any_ h (by rw [arm_eval_Attribute, hb])
end

/-! ### readings and rules -/
/-- e.f, an attribute of the instance -/
def tFld (K : PySem.W.Frag) (ta : TE) (f : Str) : TE := fun σ H Q => ta σ H fun x H1 => ∃ a C dx fs v, x = .ref a ∧ H1 a = some (.ins C dx fs) ∧ Cls K C ∧ NoAttr K C f ∧ fs.lookup f = some v ∧ Q v H1
/-- e.f, a constant of the class -/
def tCon (K : PySem.W.Frag) (ta : TE) (f : Str) : TE := fun σ H Q => ta σ H fun x H1 => ∃ a C dx fs v u, x = .ref a ∧ H1 a = some (.ins C dx fs) ∧ Cls K C ∧ Con K C f v u ∧ fs.lookup f = none ∧ Q v H1
/-- e.f = value -/
def sFld (K : PySem.W.Frag) (ta tv : TE) (f : Str) : TS := fun D σ H => tv σ H fun y H1 => ta σ H1 fun x H2 => ∃ a C dx fs, x = .ref a ∧ H2 a = some (.ins C dx fs) ∧ Cls K C ∧ NoAttr K C f ∧ fs.length < 1000 ∧
  D.nx σ (upd H2 a (.ins C dx (putF f y fs)))
/-- an augmented operator on two values -/
def InOp (X : Cx) (op : Operator) (rd : V → V → Hp → VK → Prop) : Prop :=
  ∀ (pins : List (Addr × Obj)) (s : Shared) (σ : St) (H : Hp) (x y : V) (u v : Value) (Q : VK), Inv X pins σ H s → RelV x u → RelV y v → rd x y H Q → wpAny (model X.prog X.w) X.A (inplaceOp op u v) (EP X pins σ Q) X.xe s
/-- e.f op= value -/
def sFldAug (K : PySem.W.Frag) (ta tv : TE) (rd : V → V → Hp → VK → Prop) (f : Str) : TS := fun D σ H => ta σ H fun x H1 => ∃ a C dx fs v, x = .ref a ∧ H1 a = some (.ins C dx fs) ∧ Cls K C ∧ NoAttr K C f ∧ fs.lookup f = some v ∧
  tv σ H1 fun y H2 => rd v y H2 fun z H3 => ∃ dx' fs', H3 a = some (.ins C dx' fs') ∧ fs'.length < 1000 ∧ D.nx σ (upd H3 a (.ins C dx' (putF f z fs')))

section
variable {X : Cx} {o e value : Expr} {f : Str} {pos pos' tpos : Pos} {ta tv : TE}
theorem pe_fld (he : PE X e ta) (hb : attributeBase e f X.env (eval e X.env) = eval e X.env) : PE X (.Attribute e f pos) (tFld X.K ta f) := by
  intro pins s σ H Q I h
  refine attr_of hb (thn (he pins s σ H _ I h) fun u s1 ⟨x, H1, I1, rx, a, C, dx, fs, v, ex, ea, c, n, l, q⟩ => ?_)
  subst ex
  obtain rfl : u = Value.ref a := rx
  exact getattr_ok I1 ea c n l fun u' s2 I2 ru => ⟨v, H1, I2, ru, q⟩
theorem ps_fld (ha : PE X o ta) (hv : PE X value tv) (hs : swapsWith value (some (.Attribute o f pos')) pos.line X.env = pure false) : PS X (.Assign [.Attribute o f pos'] value pos) (sFld X.K ta tv f) := by
  intro pins s σ H D I h
  refine plainObj_wpAny_Assign_Attribute (thn (hv pins s σ H _ I h) fun u s1 ⟨y, H1, I1, ry, q⟩ => thn (ha pins s1 σ H1 _ I1 q) fun ov s2 ⟨x, H2, I2, rx, a, C, dx, fs, ex, ea, c, n, l, q2⟩ => ?_) hs
  subst ex
  obtain rfl : ov = Value.ref a := rx
  exact setattr_ok I2 ea c n l ry fun s3 I3 => ⟨σ, _, I3, q2⟩
def rAdd : V → V → Hp → VK → Prop := fun x y H Q => ∃ i j, x = .int i ∧ y = .int j ∧ Q (.int (i + j)) H
def rSub : V → V → Hp → VK → Prop := fun x y H Q => ∃ i j, x = .int i ∧ y = .int j ∧ Q (.int (i - j)) H
end

/-! ### isinstance -/
section
variable {X : Cx} {pins : List (Addr × Obj)} {σ : St} {H : Hp} {s : Shared} {A : Around} {E : Value → Shared → Prop} {Q : Value → Shared → Prop} {c : Value} {b : Bool}
/-- the type of a value, as the fragment's deciders take it; for an instance its class -/
inductive TyOf (K : PySem.W.Frag) (H : Hp) : V → Value → Prop where
  | non : TyOf K H .non (.type "NoneType")
  | bl (x : Bool) : TyOf K H (.bl x) (.type "bool")
  | int (i : Int) : TyOf K H (.int i) (.type "int")
  | str (x : Str) : TyOf K H (.str x) (.type "str")
  | flt (x : UInt64) : TyOf K H (.flt x) (.type "float")
  | lst {a : Addr} {xs : List V} (e : H a = some (.lst xs)) : TyOf K H (.ref a) (.type "list")
  | frz {a : Addr} {o : Obj} {xs : List V} (e : H a = some (.frz o (.lst xs))) : TyOf K H (.ref a) (.type "list")
  | tup {a : Addr} {xs : List V} (e : H a = some (.tup xs)) : TyOf K H (.ref a) (.type "tuple")
  | dK {a : Addr} {kvs : List (Key × V)} (e : H a = some (.dK kvs)) : TyOf K H (.ref a) (.type "dict")
  | dT {a : Addr} {kvs : List (List Key × V)} (e : H a = some (.dT kvs)) : TyOf K H (.ref a) (.type "dict")
  | ins {a C dx : Addr} {fs : List (Str × V)} (e : H a = some (.ins C dx fs)) (cl : Cls K C) (ha : PySem.W.findIn K (.ref C) "__class__" = some (some (.builtin "object.__class__")))
      (hn : PySem.W.specialIn K (.builtin "object.__class__") "__get__" = some (some (.builtin "getset_descriptor.__get__"))) (htk : PySem.W.takesIn K (.builtin "object.__class__") = some true)
      (hm : PySem.W.mroIn K C (.type "object") = some true) : TyOf K H (.ref a) (.ref C)
/-- isinstance(x, c) for one class c, a built-in or an own one: kitOne's answer -/
theorem isinst_ok {x : V} {u t : Value} (I : Inv X pins σ H s) (rx : RelV x u) (ty : TyOf X.K H x t) (e : PySem.W.kitOne X.K t c = some b) (h : ∀ tk, Q (.bool b) { s with toks := tk }) :
    wpAny (model X.prog X.w) A (call (.builtin "isinstance") [u, c]) Q E s := by
  cases ty with
  | non => cases (show u = Value.none from rx); exact PySem.W.kia_one PySem.W.kitx_none I.kIn True.intro e (fun z => nomatch z) h
  | bl y => cases (show u = Value.bool y from rx); exact PySem.W.kia_one PySem.W.kitx_bool I.kIn True.intro e (fun z => nomatch z) h
  | int i => obtain ⟨t, q⟩ := (show ∃ t, u = Value.int i t from rx); cases q; exact PySem.W.kia_one PySem.W.kitx_int I.kIn True.intro e (fun z => nomatch z) h
  | str y => obtain ⟨t, q⟩ := (show ∃ t, u = Value.str y t from rx); cases q; exact PySem.W.kia_one PySem.W.kitx_str I.kIn True.intro e (fun z => nomatch z) h
  | flt y => obtain ⟨t, q⟩ := (show ∃ t, u = Value.float y t from rx); cases q; exact PySem.W.kia_one PySem.W.kitx_float I.kIn True.intro e (fun z => nomatch z) h
  | @lst a xs ea =>
    cases (show u = Value.ref a from rx)
    obtain ⟨_, _, n, _, h1⟩ := (show ObjOk X.prog X.w H s.heap a (.lst xs) from I.hok a _ ea)
    exact PySem.W.kia_one PySem.W.kitx_list I.kIn ⟨_, h1, rfl⟩ e (fun z => nomatch z) h
  | @frz a ob xs ea =>
    cases (show u = Value.ref a from rx)
    obtain ⟨_, _, _, n, _, h1⟩ := (show ObjOk X.prog X.w H s.heap a (.frz ob (.lst xs)) from I.hok a _ ea)
    exact PySem.W.kia_one PySem.W.kitx_list I.kIn ⟨_, h1, rfl⟩ e (fun z => nomatch z) h
  | @tup a xs ea =>
    cases (show u = Value.ref a from rx)
    obtain ⟨_, _, _, p⟩ := (show ObjOk X.prog X.w H s.heap a (.tup xs) from I.hok a _ ea)
    obtain ⟨o, h1, h2, _⟩ := p
    exact PySem.W.kia_one PySem.W.kitx_tuple I.kIn ⟨o, h1, h2⟩ e (fun z => nomatch z) h
  | @dK a kvs ea =>
    cases (show u = Value.ref a from rx)
    obtain ⟨_, _, vs, _, p⟩ := (show ObjOk X.prog X.w H s.heap a (.dK kvs) from I.hok a _ ea)
    obtain ⟨o, es, ep, h1, h2, _⟩ := p
    exact PySem.W.kia_one PySem.W.kitx_dict I.kIn ⟨o, h1, h2.1⟩ e (fun z => nomatch z) h
  | @dT a kvs ea =>
    cases (show u = Value.ref a from rx)
    obtain ⟨_, _, xs, _, o, es, ep, h1, h2, _⟩ := (show ObjOk X.prog X.w H s.heap a (.dT kvs) from I.hok a _ ea)
    exact PySem.W.kia_one PySem.W.kitx_dict I.kIn ⟨o, h1, h2.1⟩ e (fun z => nomatch z) h
  | @ins a C dx fs ea cl ha hn htk hm =>
    cases (show u = Value.ref a from rx)
    obtain ⟨mA, O, _⟩ := ins_get I.hok ea
    obtain ⟨od, J, _⟩ := O.look
    exact PySem.W.kia_one (PySem.W.kitx_own (cl.get _) cl.hd ha hn htk hm) I.kIn J e (fun z => nomatch z) h
end
end L2

namespace L2
open PySem PySem.Spec PyProof.Rows

/-! ### room -/
structure Room (k : Nat) (A : Around) : Prop where
  hd : A.handled = none
  dp : A.depth + 3 * k + 5 < recursionLimit
  un : A.units + 16 * k + 200 < cLine
theorem Room.mono {j k : Nat} {A : Around} (r : Room k A) (h : j ≤ k) : Room j A := ⟨r.hd, by have := r.dp; omega, by have := r.un; omega⟩
theorem Room.deeper {k : Nat} {A : Around} (r : Room (k + 1) A) (env : Env) : Room k (A.deeper env) :=
  ⟨r.hd, by have := r.dp; show A.depth + 1 + 3 * k + 5 < _; omega, by have := r.un; show A.units + 3 + 16 * k + 200 < _; omega⟩
theorem make_depth {A : Around} {C : Addr} {us : List Value} {kw : List (Str × Value)} : (A.under (.builtin "type.__call__" ⟨.ref C :: us, kw⟩)).depth = A.depth + 1 := by
  first | rfl | simp [Around.under, Code.weight, Code.isCreation, Code.isGuard, Code.isCaller, Code.frames, Code.isFrame, guardIds]
theorem make_units {A : Around} {C : Addr} {us : List Value} {kw : List (Str × Value)} : (A.under (.builtin "type.__call__" ⟨.ref C :: us, kw⟩)).units = A.units + 1 := by
  first | rfl | simp [Around.under, Code.cUnits, Code.frames, Code.isFrame]
theorem Room.make {k : Nat} {A : Around} (r : Room (k + 1) A) (C : Addr) (us : List Value) (kw : List (Str × Value)) : Room k (A.under (.builtin "type.__call__" ⟨.ref C :: us, kw⟩)) :=
  ⟨r.hd, by have := r.dp; rw [make_depth]; omega, by have := r.un; rw [make_units]; omega⟩
theorem Room.depth {k : Nat} {A : Around} (r : Room k A) : A.depth < recursionLimit := by have := r.dp; omega
theorem Room.units {k : Nat} {A : Around} (r : Room k A) : A.units + 64 < cLine := by have := r.un; omega
/-! ### argument lists and displays -/
def tNil : TA := fun _ H Q => Q [] H
def tCons (ta : TE) (tr : TA) : TA := fun σ H Q => ta σ H fun x H1 => tr σ H1 fun xs H2 => Q (x :: xs) H2
section
variable {X : Cx} {e : Expr} {es : List Expr} {te : TE} {t : TA} {pos : Pos}
theorem pa_nil : PA X [] tNil := fun _ _ _ _ H Q I h => Calls.spliced_nil ⟨[], H, I, .nil, h⟩
theorem pa_cons (ha : PE X e te) (hr : PA X es t) (hs : starEach (e :: es) X.env = (false, eval e X.env) :: starEach es X.env := by rfl) : PA X (e :: es) (tCons te t) := by
  intro pos pins s σ H Q I h
  rw [hs]
  show wpAny _ _ (spliced ((false, eval e X.env) :: backTo pos (starEach es X.env))) _ _ s
  refine Calls.spliced_cons (thn (ha pins s σ H _ I h) fun u s1 ⟨x, H1, I1, r1, q1⟩ => ?_)
  exact thn (hr pos pins s1 σ H1 _ I1 q1) fun us s2 ⟨xs, H2, I2, r2, q2⟩ => ⟨x :: xs, H2, I2, .cons r1 r2, q2⟩

/-- a tuple, a list of written items -/
def tTup (t : TA) : TE := fun σ H Q => t σ H fun xs H1 => xs.length ≤ sizeLine ∧ ∀ p, H1 p = none → Q (.ref p) (upd H1 p (.tup xs))
def tLst (t : TA) : TE := fun σ H Q => t σ H fun xs H1 => xs.length ≤ sizeLine ∧ ∀ p, H1 p = none → Q (.ref p) (upd H1 p (.lst xs))
theorem pe_tup {x1} (h : PA X es t) : PE X (.Tuple es x1 pos) (tTup t) := by
  intro pins s σ H Q I hq
  refine wpAny_Tuple_spliced (thn (h pos pins s σ H _ I hq) fun us s1 ⟨xs, H1, I1, r, z, q⟩ => ⟨by rw [← r.length]; exact z, ?_⟩)
  have hf : H1 s1.heap.objs.size = none := I1.hok.fresh (Nat.le_refl _)
  refine ⟨.ref s1.heap.objs.size, upd H1 s1.heap.objs.size (.tup xs), I1.laid (t' := s1.toks) (fun b u e => Heap.get?_push_of_some _ e) (Nat.le_refl _) ?_, rfl, q _ hf⟩
  exact ⟨z, us, r, ⟨_, Heap.get?_push_size _ rfl, rfl, _, rfl⟩⟩
theorem pe_lst (h : PA X es t) : PE X (.List es pos) (tLst t) := by
  intro pins s σ H Q I hq
  refine wpAny_List_spliced (thn (h pos pins s σ H _ I hq) fun us s1 ⟨xs, H1, I1, r, z, q⟩ => ⟨by rw [← r.length]; exact z, ?_⟩)
  have hf : H1 s1.heap.objs.size = none := I1.hok.fresh (Nat.le_refl _)
  refine ⟨.ref s1.heap.objs.size, upd H1 s1.heap.objs.size (.lst xs), I1.laid (t' := s1.toks) (fun b u e => Heap.get?_push_of_some _ e) (Nat.le_refl _) ?_, rfl, q _ hf⟩
  exact ⟨z, us, 0, r, Heap.get?_push_size _ rfl⟩
end

/-! ### what a def promises -/
/-- a def's promise: the bound arguments in the parameters' order, the heap, the wanted end, the wanted exception -/
abbrev Sp := List V → Hp → VK → XK → Prop
/-- how an exception lies behind a call (file 08 gives it): the callers' frames, abstract heap and state ahead of the call, the wish, the exception, the state -/
abbrev CXT := List Env → Hp → Shared → XK → Value → Shared → Prop

/-- the state at a call -/
structure Env0 (P : Program) (w : World) (K : PySem.W.Frag) (mg : Str → Option Value) (base : Heap) (A : Around) (outer : List Env) (s : Shared) (H : Hp) : Prop where
  frames : A.frames = some outer
  mod : Mod K mg base
  bs : ∀ b o, base.get? b = some o → s.heap.get? b = some o ∧ H b = none
  bsz : base.objs.size ≤ s.heap.objs.size
  funs : s.heap.FunFrames base outer
  frf : ∀ b ∈ frs outer, H b = none
  hok : HOk P w H s.heap
  bare : AllBare s.gens
/-- a call's end -/
def CE (outer : List Env) (P : Program) (w : World) (H : Hp) (s : Shared) (Q : VK) (u : Value) (s' : Shared) : Prop :=
  ∃ v H', s'.os = s.os ∧ AllBare s'.gens ∧ Un (frs outer) [] H H' s.heap s'.heap ∧ HOk P w H' s'.heap ∧ RelV v u ∧ Q v H'
def CR (CX : CXT) (outer : List Env) (P : Program) (w : World) (H : Hp) (s : Shared) (Q : VK) (E : XK) (r : Result) (s' : Shared) : Prop :=
  match r with
  | .ok (.ret u) => CE outer P w H s Q u s'
  | .ok _ => False
  | .error e => CX outer H s E e s'
structure FnOk (P : Program) (w : World) (K : PySem.W.Frag) (mg : Str → Option Value) (base : Heap) (CX : CXT) (k : Nat) (f : Addr) (fd : FuncData) (ps : List Str) (sp : Sp) : Prop where
  len : ∀ vs H Q E, sp vs H Q E → vs.length = ps.length
  run : ∀ (A : Around) (outer : List Env) (s : Shared) (H : Hp) (args : Args) (us : List Value) (vs : List V) (Q : VK) (E : XK), Room k A → Env0 P w K mg base A outer s H → BindsTo s fd args (ps.zip us) → Vals vs us → sp vs H Q E →
    codeAny (model P w) A (.call (.ref f) args) (CR CX outer P w H s Q E) s
theorem FnOk.mono {P : Program} {w : World} {K : PySem.W.Frag} {mg : Str → Option Value} {base : Heap} {CX : CXT} {j k : Nat} {f : Addr} {fd : FuncData} {ps : List Str} {sp : Sp} (F : FnOk P w K mg base CX j f fd ps sp) (h : j ≤ k) :
    FnOk P w K mg base CX k f fd ps sp := ⟨F.len, fun A outer s H args us vs Q E hr => F.run A outer s H args us vs Q E (hr.mono h)⟩
theorem Env0.make {P : Program} {w : World} {K : PySem.W.Frag} {mg : Str → Option Value} {base : Heap} {A : Around} {outer : List Env} {s : Shared} {H : Hp} (e : Env0 P w K mg base A outer s H) (C : Addr) (us : List Value) (kw : List (Str × Value)) :
    Env0 P w K mg base (A.under (.builtin "type.__call__" ⟨.ref C :: us, kw⟩)) outer s H := ⟨by first | exact e.frames | (simpa [Around.under, Code.envs, Code.isFrame, pushEnvs] using e.frames), e.mod, e.bs, e.bsz, e.funs, e.frf, e.hok, e.bare⟩
section
variable {X : Cx} {pins : List (Addr × Obj)} {σ : St} {H : Hp} {s s' : Shared}
/-- from a body: what a callee wants -/
theorem Inv.env0 (I : Inv X pins σ H s) : Env0 X.prog X.w X.K X.mg X.base X.A X.stack s H :=
  ⟨I.ok.frames, I.ok.mod, I.bs, Nat.le_trans I.ok.bsz I.sz, I.stack, I.stkFree, I.hok, I.bare⟩
/-- behind a call -/
theorem Inv.after {Q : VK} {u : Value} (I : Inv X pins σ H s) (h : CE X.stack X.prog X.w H s Q u s') : EP X pins σ Q u s' := by
  obtain ⟨v, H', os, bare, un, hok, r, q⟩ := h
  obtain ⟨hh, g, d, t, os'⟩ := s'
  obtain rfl : os' = s.os := os
  exact ⟨v, H', I.call (h' := hh) (g' := g) (d' := d) (t' := t) (ch := []) un hok bare (fun b z => absurd z (by simp)), r, q⟩
end

/-! ### calls -/
/-- f(..): the written arguments, then the defaults dvs; E: what is wanted of an exception -/
def tCall (sp : Sp) (dvs : List V) (E : XK) (t : TA) : TE := fun σ H Q => t σ H fun vs H1 => sp (vs ++ dvs) H1 Q E
/-- o.m(..) of an instance of the class at C -/
def tMeth (C : Addr) (m : Str) (sp : Sp) (dvs : List V) (E : XK) (ta : TE) (t : TA) : TE := fun σ H Q => ta σ H fun x H1 => ∃ a dx fs, x = .ref a ∧ H1 a = some (.ins C dx fs) ∧ fs.lookup m = none ∧
  t σ H1 fun vs H2 => sp (x :: (vs ++ dvs)) H2 Q E
/-- C(..): a new instance and its dict, then __init__ -/
def tMake (C : Addr) (sp : Sp) (dvs : List V) (E : XK) (t : TA) : TE := fun σ H Q => t σ H fun vs H1 => ∀ x dx, H1 x = none → H1 dx = none → dx ≠ x →
  sp (.ref x :: (vs ++ dvs)) (upd (upd H1 dx (.own x)) x (.ins C dx [])) (fun v H2 => v = .non ∧ Q (.ref x) H2) E

/-- how the parameters are bound: us the positional arguments, kw the keywords' values by name, ds the defaults that fill up -/
def Binds (K : PySem.W.Frag) (fd : FuncData) (ps : List Str) (ds : List Value) : Prop :=
  ∀ (s : Shared) (us : List Value), K.In s.heap → (us ++ ds).length = ps.length → BindsTo s fd ⟨us, []⟩ (ps.zip (us ++ ds))
/-- every parameter is given -/
theorem Binds.all {K : PySem.W.Frag} {fd : FuncData} {ps : List Str} (h : ∀ us : List Value, us.length = ps.length → bindArgs fd ⟨us, []⟩ = pure (ps.zip us)) : Binds K fd ps [] := fun s us _ hl => by
  rw [List.append_nil] at hl ⊢
  exact .of_eq (h us hl)

/-- an exception of a callee reaches what this body wants of exceptions -/
def Passes (CX : CXT) (X : Cx) (E : XK) : Prop := ∀ (pins : List (Addr × Obj)) (σ : St) (H : Hp) (s : Shared) (e : Value) (s' : Shared), Inv X pins σ H s → CX X.stack H s E e s' → X.xe e s'

section
variable {X : Cx} {CX : CXT} {k : Nat} {f C : Addr} {fd : FuncData} {ps : List Str} {sp : Sp} {dvs : List V} {ds : List Value} {E : XK} {x m : Str} {p pos apos : Pos} {e o : Expr} {es : List Expr} {ta : TE} {t : TA}

/-- the callee runs -/
theorem run_fn {pins : List (Addr × Obj)} {σ : St} {H : Hp} {s : Shared} {Q : VK} {us : List Value} {vs : List V} (F : FnOk X.prog X.w X.K X.mg X.base CX k f fd ps sp) (hr : Room k X.A) (hb : Binds X.K fd ps ds) (hd : Vals dvs ds) (hx : Passes CX X E)
    (I : Inv X pins σ H s) (r : Vals vs us) (h : sp (vs ++ dvs) H Q E) : wpAny (model X.prog X.w) X.A (call (.ref f) us) (EP X pins σ Q) X.xe s := by
  have r2 : Vals (vs ++ dvs) (us ++ ds) := r.append hd
  have hl : (us ++ ds).length = ps.length := by rw [← r2.length]; exact F.len _ _ _ _ h
  refine wpAny_call (codeAny_mono (F.run X.A X.stack s H ⟨us, []⟩ (us ++ ds) (vs ++ dvs) Q E hr I.env0 (hb s us I.kIn hl) r2 h) fun r s' hq => ?_)
  cases r with
  | error e => exact hx pins σ H s e s' I hq
  | ok fl =>
    cases fl with
    | ret u => exact I.after hq
    | next => exact False.elim hq
    | brk => exact False.elim hq
    | cont => exact False.elim hq

theorem pe_call (F : FnOk X.prog X.w X.K X.mg X.base CX k f fd ps sp) (hr : Room k X.A) (hg : Gl X x) (hm : X.mg x = some (.ref f)) (hk : PySem.W.keepIn X.K (.ref f) = true) (hb : Binds X.K fd ps ds) (hd : Vals dvs ds) (hx : Passes CX X E)
    (ha : PA X (e :: es) t) (hdb : (x == ("__debug__" : Str)) = false := by decide) (he : starEach (e :: es) X.env = (false, eval e X.env) :: starEach es X.env := by rfl) (hpl : (backTo pos (starEach es X.env)).any (·.1) = false := by rfl) :
    PE X (.Call (.Name x p) (e :: es) [] pos) (tCall sp dvs E t) := by
  intro pins s σ H Q I h
  refine wpAny_Call_Name_kw (ld_glob I hg hm ?_ hdb)
  refine PySem.W.callWith_K (h₀ := X.base) I.ok.mod.kin hk (thn (ha pos pins s σ H _ I h) fun us s1 ⟨vs, H1, I1, r, q⟩ => ⟨I1.kIn, ?_⟩) he hpl
  exact run_fn F hr hb hd hx I1 r q
/-- what a class must have to be made -/
structure Mk (K : PySem.W.Frag) (C f : Addr) : Prop where
  makes : PySem.W.makesIn K C = true
  init : PySem.W.findIn K (.ref C) "__init__" = some (some (.ref f))
  fn : PySem.W.isFn K (.ref f) = true
  kp : PySem.W.keepIn K (.ref C) = true

theorem run_make {pins : List (Addr × Obj)} {σ : St} {H : Hp} {s : Shared} {Q : VK} {us : List Value} {vs : List V} (M : Mk X.K C f) (F : FnOk X.prog X.w X.K X.mg X.base CX k f fd ps sp) (hr : Room (k + 1) X.A) (hb : Binds X.K fd ps ds) (hd : Vals dvs ds)
    (hx : Passes CX X E) (I : Inv X pins σ H s) (r : Vals vs us)
    (h : ∀ x dx, H x = none → H dx = none → dx ≠ x → sp (.ref x :: (vs ++ dvs)) (upd (upd H dx (.own x)) x (.ins C dx [])) (fun v H2 => v = .non ∧ Q (.ref x) H2) E) :
    wpAny (model X.prog X.w) X.A (call (.ref C) us) (EP X pins σ Q) X.xe s := by
  have hq := h (s.heap.objs.size + 1) s.heap.objs.size (I.hok.fresh (Nat.le_succ _)) (I.hok.fresh (Nat.le_refl _)) (Nat.ne_of_lt (Nat.lt_succ_self _))
  have I2 := Inv.made (C := C) I
  have r2 : Vals (V.ref (s.heap.objs.size + 1) :: (vs ++ dvs)) (Value.ref (s.heap.objs.size + 1) :: (us ++ ds)) := .cons rfl (r.append hd)
  have hl : (Value.ref (s.heap.objs.size + 1) :: us ++ ds).length = ps.length := by
    have e := r2.length
    rw [F.len _ _ _ _ hq] at e
    exact e.symm
  refine wpAny_call (make_map (f := f) I.kIn M.makes M.init (beq_iff_eq.mp M.fn) (codeAny_mono (F.run _ X.stack _ _ ⟨Value.ref (s.heap.objs.size + 1) :: us, []⟩ (Value.ref (s.heap.objs.size + 1) :: (us ++ ds)) _ _ E (hr.make C us [])
    (I2.env0.make C us []) (hb _ (Value.ref (s.heap.objs.size + 1) :: us) I2.kIn hl) r2 hq) fun r s' hq' => ?_))
  cases r with
  | error e => exact hx pins σ _ _ e s' I2 hq'
  | ok fl =>
    cases fl with
    | ret u =>
      obtain ⟨v, H', I3, rv, ev, q3⟩ := I2.after hq'
      subst ev
      exact ⟨rv, ⟨V.ref (s.heap.objs.size + 1), H', I3, rfl, q3⟩⟩
    | next => exact False.elim hq'
    | brk => exact False.elim hq'
    | cont => exact False.elim hq'
theorem pe_make (M : Mk X.K C f) (F : FnOk X.prog X.w X.K X.mg X.base CX k f fd ps sp) (hr : Room (k + 1) X.A) (hg : Gl X x) (hm : X.mg x = some (.ref C)) (hb : Binds X.K fd ps ds) (hd : Vals dvs ds) (hx : Passes CX X E)
    (ha : PA X (e :: es) t) (hdb : (x == ("__debug__" : Str)) = false := by decide) (he : starEach (e :: es) X.env = (false, eval e X.env) :: starEach es X.env := by rfl) (hpl : (backTo pos (starEach es X.env)).any (·.1) = false := by rfl) :
    PE X (.Call (.Name x p) (e :: es) [] pos) (tMake C sp dvs E t) := by
  intro pins s σ H Q I h
  refine wpAny_Call_Name_kw (ld_glob I hg hm ?_ hdb)
  refine PySem.W.callWith_K (h₀ := X.base) I.ok.mod.kin M.kp (thn (ha pos pins s σ H _ I h) fun us s1 ⟨vs, H1, I1, r, q⟩ => ⟨I1.kIn, ?_⟩) he hpl
  exact run_make M F hr hb hd hx I1 r q
end

/-! ### keywords -/
/-- the values of the keywords, from the left -/
def PK (X : Cx) (kws : List Keyword) (t : TA) : Prop :=
  ∀ (pos : Pos) (pins : List (Addr × Obj)) (s : Shared) (σ : St) (H : Hp) (Q : List V → Hp → Prop), Inv X pins σ H s → t σ H Q → wpAny (model X.prog X.w) X.A (evalAll ((backToKw pos (keywordEach kws X.env)).map (·.2))) (AP X pins σ Q) X.xe s
section
variable {X : Cx} {CX : CXT} {k : Nat} {f C : Addr} {fd : FuncData} {ps ks : List Str} {sp : Sp} {E : XK} {x m : Str} {p pos apos kpos : Pos} {e o : Expr} {es : List Expr} {kws : List Keyword} {te ta : TE} {t tk : TA} {nm : Option Str}
/-- how a call with keywords binds: g puts the positional values us and the keywords' values ws (names ks) in the parameters' order, defaults among them -/
structure KBinds (K : PySem.W.Frag) (fd : FuncData) (ps ks : List Str) (g : List Value → List Value → List Value) (gV : List V → List V → List V) : Prop where
  to : ∀ (s : Shared) (us ws : List Value), K.In s.heap → (g us ws).length = ps.length → BindsTo s fd ⟨us, ks.zip ws⟩ (ps.zip (g us ws))
  rel : ∀ {vs : List V} {us : List Value} {zs : List V} {ws : List Value}, Vals vs us → Vals zs ws → Vals (gV vs zs) (g us ws)
def tCallK (sp : Sp) (gV : List V → List V → List V) (E : XK) (t tk : TA) : TE := fun σ H Q => t σ H fun vs H1 => tk σ H1 fun zs H2 => sp (gV vs zs) H2 Q E
variable {g : List Value → List Value → List Value} {gV : List V → List V → List V}
end

/-! ### a def's body keeps its promise -/
/-- names: the parameters first -/
structure FnScope (N P : List Str) (sc : Scope) : Prop where
  kind : sc.kind = .function
  co : sc.isCoroutine = false
  gen : sc.isGenerator = false
  nd : N.Nodup
  pre : N.take P.length = P
  par : ∀ x ∈ P, sc.names.lookup x = some .local ∨ sc.names.lookup x = some .cell
  nofree : ∀ y ∈ sc.names, y.2 ≠ .free

theorem bindL_out {kindOf : Str → Option NameKind} {x : Str} : ∀ {binds : List (Str × Value)} {m : Str → Option Value}, (∀ v, (x, v) ∉ binds) → bindL kindOf binds m x = m x
  | [], _, _ => rfl
  | (n, v) :: r, m, h => by
    unfold bindL
    rw [bindL_out fun w hw => h w (List.mem_cons_of_mem _ hw)]
    split
    · have : x ≠ n := by rintro rfl; exact h v List.mem_cons_self
      simp [this]
    · rfl
theorem bindC_out {kindOf : Str → Option NameKind} {x : Str} : ∀ {binds : List (Str × Value)} {m : Str → Option Value}, (∀ v, (x, v) ∉ binds) → bindC kindOf binds m x = m x
  | [], _, _ => rfl
  | (n, v) :: r, m, h => by
    unfold bindC
    rw [bindC_out fun w hw => h w (List.mem_cons_of_mem _ hw)]
    split
    · rfl
    · have : x ≠ n := by rintro rfl; exact h v List.mem_cons_self
      simp [this]
theorem bindL_get {kindOf : Str → Option NameKind} {x : Str} {v : Value} : ∀ {P : List Str} {vs : List Value} {i : Nat} {m : Str → Option Value}, P.Nodup → P[i]? = some x → vs[i]? = some v → kindOf x = some .local →
    bindL kindOf (P.zip vs) m x = some v
  | [], _, _, _, _, h, _, _ => by simp at h
  | _ :: _, [], _, _, _, _, h, _ => by simp at h
  | p :: P, w :: vs, 0, m, nd, h1, h2, hk => by
    simp at h1 h2; subst h1; subst h2
    show bindL kindOf ((p, w) :: P.zip vs) m p = _
    unfold bindL
    rw [bindL_out fun v hv => (List.nodup_cons.mp nd).1 (List.of_mem_zip hv).1, if_pos hk]
    simp
  | p :: P, w :: vs, i + 1, m, nd, h1, h2, hk => by
    show bindL kindOf ((p, w) :: P.zip vs) m x = _
    unfold bindL
    exact bindL_get (i := i) (List.nodup_cons.mp nd).2 (by simpa using h1) (by simpa using h2) hk
theorem bindC_get {kindOf : Str → Option NameKind} {x : Str} {v : Value} : ∀ {P : List Str} {vs : List Value} {i : Nat} {m : Str → Option Value}, P.Nodup → P[i]? = some x → vs[i]? = some v → kindOf x ≠ some .local →
    bindC kindOf (P.zip vs) m x = some v
  | [], _, _, _, _, h, _, _ => by simp at h
  | _ :: _, [], _, _, _, _, h, _ => by simp at h
  | p :: P, w :: vs, 0, m, nd, h1, h2, hk => by
    simp at h1 h2; subst h1; subst h2
    show bindC kindOf ((p, w) :: P.zip vs) m p = _
    unfold bindC
    rw [bindC_out fun v hv => (List.nodup_cons.mp nd).1 (List.of_mem_zip hv).1, if_neg hk]
    simp
  | p :: P, w :: vs, i + 1, m, nd, h1, h2, hk => by
    show bindC kindOf ((p, w) :: P.zip vs) m x = _
    unfold bindC
    exact bindC_get (i := i) (List.nodup_cons.mp nd).2 (by simpa using h1) (by simpa using h2) hk

/-- the names' values at the entry -/
def start (N : List Str) (vs : List V) : St := vs.map some ++ List.replicate (N.length - vs.length) none

/-- the context of a def's body, at its entry; an exception leaves the frame, then lies as CX says -/
def cxOf (CX : CXT) (P : Program) (w : World) (K : PySem.W.Frag) (mg : Str → Option Value) (base : Heap) (N : List Str) (qual : Str) (scope : Scope) (f : Addr) (cd : Value) (A : Around) (outer : List Env) (s : Shared) (H : Hp) (E : XK) : Cx where
  prog := P
  w := w
  K := K
  mg := mg
  base := base
  A := A.deeper (envOfC qual scope s.heap.objs.size f cd)
  N := N
  s₀ := s
  H₀ := H
  env := envOfC qual scope s.heap.objs.size f cd
  outer := outer
  stack := envOfC qual scope s.heap.objs.size f cd :: outer
  ex := []
  calm := true
  fn := fun _ => true
  pn := []
  xe := fun e s' => wpAny (model P w) (A.deeper (envOfC qual scope s.heap.objs.size f cd)) (leaving (envOfC qual scope s.heap.objs.size f cd) e) (fun _ s'' => CX outer H s E e s'') (fun e' s'' => CX outer H s E e' s'') s'

theorem cell_has {sc : Scope} {n : Nat} {x : Str} (h : sc.names.lookup x = some .cell) : ∃ c, (cellsFrom n sc.names []).lookup x = some c := by
  have q := PySem.W.cellsFrom_some sc.names n [] (.inl h)
  exact Option.isSome_iff_exists.mp q

theorem inv_start {CX : CXT} {P : Program} {w : World} {K : PySem.W.Frag} {mg : Str → Option Value} {base : Heap} {N ps : List Str} {qual : Str} {scope : Scope} {f : Addr} {cd : Value} {A : Around} {outer : List Env} {s s1 : Shared} {H : Hp} {E : XK} {us : List Value} {vs : List V}
    (S : FnScope N ps scope) (hd : A.handled = none) (e0 : Env0 P w K mg base A outer s H) (hl : vs.length = ps.length) (r : Vals vs us)
    (x : InCallC s s.heap.objs.size (bindL (envOfC qual scope s.heap.objs.size f cd).kindOf (ps.zip us) fun _ => none) (cellsFrom (s.heap.objs.size + 1) scope.names []) (bindC (envOfC qual scope s.heap.objs.size f cd).kindOf (ps.zip us) fun _ => none) s1) :
    Inv (cxOf CX P w K mg base N qual scope f cd A outer s H E) [] (start N vs) H s1 := by
  have hpl : ps.length ≤ N.length := by have := congrArg List.length S.pre; rw [List.length_take] at this; omega
  obtain ⟨h1, tk, rfl, hk⟩ := x.done
  have noA : ∀ b : Addr, b ∉ (cxOf CX P w K mg base N qual scope f cd A outer s H E).ex := fun b z => absurd (show b ∈ ([] : List Addr) from z) (by simp)
  refine ⟨⟨e0.mod, S.kind, rfl, rfl, Nat.le_refl _, fun y z c h1 h2 => ?_, fun y hy => ?_, fun y c _ h => ?_, fun _ => hd, Around.frames_deeper e0.frames, .inr ⟨rfl, rfl⟩, fun b z => absurd z (noA b), e0.bs, e0.bsz, fun b _ _ => noA b, fun b z => absurd z (noA b), e0.funs, e0.frf⟩,
    rfl, e0.bare, Un.kept hk, ⟨_, x.toInCall.ns, fun i y v h1 h2 h3 => ?_⟩, fun y c h => ⟨_, x.cell y c h⟩, e0.hok.fresh (Nat.le_refl _), fun y c h => ?_, fun p hp => absurd (show p ∈ ([] : List (Addr × Obj)) from hp) (by simp), e0.hok.kept hk, ?_⟩
  · exact name_of_addr x.apart (PySem.mem_of_lookup h1) (PySem.mem_of_lookup h2)
  · have hy : scope.names.lookup y = some .cell ∨ scope.names.lookup y = some .free := hy
    rcases hy with hy | hy
    · exact cell_has hy
    · exact absurd rfl (S.nofree _ (PySem.mem_of_lookup hy))
  · exact Nat.le_of_lt (x.above y c (PySem.mem_of_lookup h))
  · have hi : i < vs.length := by
      unfold start at h2
      by_cases hi : i < vs.length
      · exact hi
      · rw [List.getElem?_append_right (by simpa using hi)] at h2
        rw [List.getElem?_replicate] at h2
        split at h2 <;> cases h2
    have ha : vs[i]? = some v := by
      unfold start at h2
      rw [List.getElem?_append_left (by simpa using hi), List.getElem?_map] at h2
      cases e : vs[i]? with
      | none => rw [e] at h2; cases h2
      | some a => rw [e] at h2; cases h2; rfl
    obtain ⟨u, hu, rv⟩ := r.get ha
    have hp : ps[i]? = some y := by
      rw [← S.pre, List.getElem?_take_of_lt (by omega)]; exact h1
    have ndP : ps.Nodup := by rw [← S.pre]; exact S.nd.sublist (List.take_sublist _ _)
    refine ⟨u, rv, ?_⟩
    rcases S.par y (List.mem_of_getElem? hp) with k | k
    · exact .inl ⟨k, bindL_get ndP hp hu k⟩
    · obtain ⟨c, e⟩ := cell_has (n := s.heap.objs.size + 1) k
      refine .inr ⟨.inl k, c, e, ?_⟩
      have q := x.cell y c e
      rw [bindC_get ndP hp hu (by show scope.names.lookup y ≠ _; rw [k]; decide)] at q
      exact q
  · exact e0.hok.fresh (Nat.le_of_lt (x.above y c (PySem.mem_of_lookup h)))
  · unfold start
    show _ = N.length
    rw [List.length_append, List.length_map, List.length_replicate]
    omega

/-- THE RULE: a def (or a method) of the text, by its body. The body's reading t is chosen for each entry; it is run at the parameters' values -/
theorem fn_of {CX : CXT} {P : Program} {w : World} {K : PySem.W.Frag} {mg : Str → Option Value} {base : Heap} {k : Nat} {f : Addr} {name qual : Str} {params : Arguments} {body : List Stmt} {scope : Scope} {dV kV doc pm cdv ct oc : Value} {an od : Option Addr}
    {osl : Array (Option Value)} {N ps : List Str} {sp : Sp} (lk : K.lookup f = some ⟨oc, od, .func (PySem.W.fnOf name qual params body scope dV kV doc pm an cdv ct), osl⟩) (hcd : PySem.W.codeIn K cdv qual = true) (S : FnScope N ps scope)
    (len : ∀ vs H Q E, sp vs H Q E → vs.length = ps.length)
    (hbody : ∀ (A : Around) (outer : List Env) (s : Shared) (H : Hp) (vs : List V) (Q : VK) (E : XK), Room k (A.deeper (envOfC qual scope s.heap.objs.size f cdv)) → sp vs H Q E →
      ∃ t, PSs (cxOf CX P w K mg base N qual scope f cdv A outer s H E) body t ∧ t { nx := fun _ H' => Q .non H', rt := Q } (start N vs) H) :
    FnOk P w K mg base CX (k + 1) f (PySem.W.fnOf name qual params body scope dV kV doc pm an cdv ct) ps sp := by
  refine ⟨len, fun A outer s H args us vs Q E hr e0 hb r hsp => ?_⟩
  have hl := len _ _ _ _ hsp
  have KX : K.In s.heap := e0.mod.kin.keeps fun b o e => (e0.bs b o e).1
  have lim : s.heap.NoLimit := e0.mod.nolimit.keeps fun b o e => (e0.bs b o e).1
  have hkind : ∀ y ∈ ps.zip us, scope.names.lookup y.1 = some .local ∨ (scope.names.lookup y.1 = some .cell ∧ ((cellsFrom (s.heap.objs.size + 1) scope.names []).lookup y.1).isSome = true) := fun ⟨n, v⟩ hy => by
    rcases S.par n (List.of_mem_zip hy).1 with q | q
    · exact .inl q
    · exact .inr ⟨q, PySem.W.cellsFrom_some _ _ _ (.inl q)⟩
  refine codeAny_call_function hr.depth (KX _ _ lk) rfl S.co S.gen rfl (PySem.W.codeRec_of KX hcd) (hb _ _ _ _ ?_)
  refine wpAny_newFunctionEnv_cells S.kind hkind fun env he s1 x => ?_
  subst he
  refine ⟨lim.keeps x.toInCall.keep, codeAny_func ?_⟩
  obtain ⟨t, ht, hq⟩ := hbody A outer s H vs Q E (hr.deeper _) hsp
  have I : Inv (cxOf CX P w K mg base N qual scope f cdv A outer s H E) [] (start N vs) H s1 := inv_start S hr.hd e0 hl r x
  refine wpAny_mono (ht [] s1 (start N vs) H _ I hq) (fun fl s' hs => ?_) fun e s' hs => hs
  have fin : ∀ {σ' : St} {H' : Hp} {v : V} {u : Value}, Inv (cxOf CX P w K mg base N qual scope f cdv A outer s H E) [] σ' H' s' → RelV v u → Q v H' → CE outer P w H s Q u s' :=
    fun {σ' H' v u} J rv q => ⟨v, H', J.os, J.bare, J.base, J.hok, rv, q⟩
  cases fl with
  | ret u =>
    obtain ⟨v, σ', H', J, rv, q⟩ := hs
    exact fin J rv q
  | next =>
    obtain ⟨σ', H', J, q⟩ := hs
    exact fin (v := V.non) (u := Value.none) J rfl q
  | brk =>
    obtain ⟨_, _, _, q⟩ := hs
    exact False.elim q
  | cont =>
    obtain ⟨_, _, _, q⟩ := hs
    exact False.elim q
end L2

namespace L2
open PySem PySem.Spec PyProof.Rows
section
variable {X : Cx} {x : Str} {p pos : Pos} {e : Expr} {es : List Expr} {t : TA} {id T : String} {r : List V → Hp → VK → Prop}

def tCB (r : List V → Hp → VK → Prop) (t : TA) : TE := fun σ H Q => t σ H fun vs H1 => r vs H1 Q
/-- f(e, ..), f a built-in function -/
theorem pe_callB (hc : CallR X (.builtin id) r) (hg : Gl X x) (hm : X.mg x = none) (hv : bootBuiltins x = some (.builtin id)) (ha : PA X (e :: es) t) (hn : x ≠ "__name__" := by decide) (hdb : (x == ("__debug__" : Str)) = false := by decide)
    (he : starEach (e :: es) X.env = (false, eval e X.env) :: starEach es X.env := by rfl) (hpl : (backTo pos (starEach es X.env)).any (·.1) = false := by rfl) : PE X (.Call (.Name x p) (e :: es) [] pos) (tCB r t) := by
  intro pins s σ H Q I h
  refine wpAny_Call_Name_kw (ld_blt I hg hm hv ?_ hn hdb)
  exact PyProof.Rows.callWith_builtin1 (thn (ha pos pins s σ H _ I h) fun us s1 ⟨vs, H1, I1, r1, q1⟩ => hc pins s1 σ H1 vs us Q I1 r1 q1) he hpl
/-- T(e, ..), T a built-in type -/
theorem pe_callTy (hc : CallR X (.type T) r) (hg : Gl X x) (hm : X.mg x = none) (hv : bootBuiltins x = some (.type T)) (ha : PA X (e :: es) t) (hn : x ≠ "__name__" := by decide) (hdb : (x == ("__debug__" : Str)) = false := by decide)
    (he : starEach (e :: es) X.env = (false, eval e X.env) :: starEach es X.env := by rfl) (hpl : (backTo pos (starEach es X.env)).any (·.1) = false := by rfl) : PE X (.Call (.Name x p) (e :: es) [] pos) (tCB r t) := by
  intro pins s σ H Q I h
  refine wpAny_Call_Name_kw (ld_blt I hg hm hv ?_ hn hdb)
  exact PyProof.Rows.callWith_type1 (thn (ha pos pins s σ H _ I h) fun us s1 ⟨vs, H1, I1, r1, q1⟩ => hc pins s1 σ H1 vs us Q I1 r1 q1) he hpl
end
end L2

namespace HT
open PySem PyProof.Rows

/-- t < u of tuples of ints -/
def lexLt : List Int → List Int → Bool
  | [], [] => false
  | [], _ :: _ => true
  | _ :: _, [] => false
  | x :: xs, y :: ys => if x = y then lexLt xs ys else decide (x < y)
section
open PySem.SeqAt
open PySem.AutoSeq1 (wpAny_loadPart')
open PySem.MeetsSeq PySem.MeetsSeq2 PySem.MeetsSeq3

end

section
variable {prog : Program} {w : World} {A : Around} {E : Value → Shared → Prop} {s : Shared}

/-! ### t[a:b], not the whole -/
/-- a slice's bound as a place among n (d where it is left out) -/
def sIx (n d : Nat) : Option Int → Nat
  | none => d
  | some v => if v < 0 then (v + (n : Int)).toNat else min v.toNat n
theorem sIx_none (n d : Nat) : sIx n d none = d := rfl
theorem sIx_nat (n d k : Nat) : sIx n d (some (k : Int)) = min k n := by
  show (if (k : Int) < 0 then ((k : Int) + (n : Int)).toNat else min (k : Int).toNat n) = min k n
  rw [if_neg (by omega), Int.toNat_natCast]
theorem sIx_le (n d : Nat) (hd : d ≤ n) (o : Option Int) : sIx n d o ≤ n := by
  cases o with
  | none => exact hd
  | some v =>
    show (if v < 0 then (v + (n : Int)).toNat else min v.toNat n) ≤ n
    by_cases hv : v < 0
    · rw [if_pos hv]; omega
    · rw [if_neg hv]; exact Nat.min_le_right _ _
theorem clip_eq (v : Int) (n d : Nat) : (if v < 0 then max (v + (n : Int)) 0 else min v (n : Int)) = ((sIx n d (some v) : Nat) : Int) := by
  show (if v < 0 then max (v + (n : Int)) 0 else min v (n : Int)) = (((if v < 0 then (v + (n : Int)).toNat else min v.toNat n) : Nat) : Int)
  by_cases hv : v < 0
  · simp only [if_pos hv]; omega
  · simp only [if_neg hv]; omega
theorem adjust_gen (lo hi : Option Int) (n : Nat) : Builtin.Slice.sliceAdjust lo hi 1 (n : Int) = (((sIx n 0 lo : Nat) : Int), ((sIx n n hi : Nat) : Int)) := by
  have h1 : ¬ ((1 : Int) < 0) := by omega
  unfold Builtin.Slice.sliceAdjust
  simp only [h1, if_false]
  refine Prod.ext ?_ ?_
  · cases lo with
    | none => rfl
    | some v => exact clip_eq v n 0
  · cases hi with
    | none => rfl
    | some v => exact clip_eq v n n
theorem places_gen (i j : Nat) : Builtin.Slice.slicePlaces (i : Int) (j : Int) 1 = j - i := by
  unfold Builtin.Slice.slicePlaces
  have h1 : (1 : Int) > 0 := by omega
  simp only [h1, if_true, Int.ediv_one]
  split <;> omega
theorem slicePart_ {v : Value} {o : Option Int} {Q : Option Int → Shared → Prop} (p : IsPart v o) (h : Q o s) : wpAny (model prog w) A (Builtin.Slice.slicePartIndex v) Q E s := by
  cases p with
  | none => exact slicePart_none h
  | int i t => exact slicePart_int h
theorem sliceApplied_gen {sl : Addr} {vl vu : Value} {lo hi : Option Int} {n : Nat} {Q : Int × Int × Nat → Shared → Prop} (hs : s.heap.IsSliceOf sl vl vu .none) (pl : IsPart vl lo) (pu : IsPart vu hi)
    (h : Q (((sIx n 0 lo : Nat) : Int), 1, sIx n n hi - sIx n 0 lo) s) : wpAny (model prog w) A (Builtin.Slice.sliceApplied (.ref sl) (pure (n : Int))) Q E s := by
  obtain ⟨os, hos, hcs, hds⟩ := id hs
  unfold Builtin.Slice.sliceApplied Builtin.Slice.sliceFields
  refine wpAny_bind (wpAny_bind (wpAny_field hos hds (x := vl) rfl (wpAny_bind (wpAny_field hos hds (x := vu) rfl (wpAny_bind (wpAny_field hos hds (x := .none) rfl (wpAny_pure ?_)))))))
  refine wpAny_bind (slicePart_none ?_)
  show wpAny _ _ (if ((1 : Int) == 0) = true then _ else _) _ _ s
  rw [if_neg (by decide)]
  refine wpAny_bind (slicePart_ pl (wpAny_bind (slicePart_ pu (wpAny_bind (wpAny_pure ?_)))))
  show wpAny _ _ (match Builtin.Slice.sliceAdjust lo hi 1 (n : Int) with | (lo, hi) => pure (lo, (1 : Int), Builtin.Slice.slicePlaces lo hi 1)) _ _ s
  rw [adjust_gen lo hi n]
  show wpAny _ _ (pure (((sIx n 0 lo : Nat) : Int), (1 : Int), Builtin.Slice.slicePlaces ((sIx n 0 lo : Nat) : Int) ((sIx n n hi : Nat) : Int) 1)) _ _ s
  rw [places_gen]
  exact wpAny_pure h
theorem pick_gen (xs : Array Value) (i k : Nat) : ((List.range k).filterMap fun (m : Nat) => xs[((i : Int) + (m : Int) * 1).toNat]?).toArray = ((xs.toList.drop i).take k).toArray := by
  have e : (fun (m : Nat) => xs[((i : Int) + (m : Int) * 1).toNat]?) = fun m => xs[i + m]? := by
    funext m
    have : ((i : Int) + (m : Int) * 1).toNat = i + m := by omega
    rw [this]
  rw [e]
  have := pick_run xs i k
  rw [List.filterMap_map] at this
  have e2 : ((fun x => xs[x]?) ∘ fun x => i + x) = fun m => xs[i + m]? := rfl
  rw [e2] at this
  rw [this]

theorem getItem_tuple_cut {t sl : Addr} {items : Array Value} {vl vu : Value} {lo hi : Option Int} {Q : Value → Shared → Prop} (ht : IsTup s.heap t items) (hs : s.heap.IsSliceOf sl vl vu .none) (pl : IsPart vl lo) (pu : IsPart vu hi)
    (hw : ¬ (sIx items.size 0 lo = 0 ∧ sIx items.size items.size hi = items.size))
    (h : Q (.ref s.heap.objs.size) { s with heap := s.heap.push { cls := .type "tuple", data := .seq ((items.toList.drop (sIx items.size 0 lo)).take (sIx items.size items.size hi - sIx items.size 0 lo)).toArray } })
    (hsz : items.size ≤ sizeLine) : wpAny (model prog w) A (getItem (.ref t) (.ref sl)) Q E s := by
  have htake : sizeOk (.seq ((items.toList.drop (sIx items.size 0 lo)).take (sIx items.size items.size hi - sIx items.size 0 lo)).toArray) := by
    show ((items.toList.drop (sIx items.size 0 lo)).take (sIx items.size items.size hi - sIx items.size 0 lo)).toArray.size ≤ sizeLine
    rw [List.size_toArray, List.length_take, List.length_drop, Array.length_toList]
    omega
  have hj : sIx items.size items.size hi ≤ items.size := sIx_le _ _ (Nat.le_refl _) hi
  obtain ⟨os, hos, hcs, hds⟩ := id hs
  have hTs : s.TypeIs (.ref sl) "slice" := ⟨os, hos, hcs⟩
  unfold getItem
  try with_reducible refine wpAny_holding ?_
  first | refine wpAny_bind (wpAny_pure ?_) | skip
  refine wpAny_bind (wpAny_sequenceKey ht.typeIs (by decide) ?_)
  refine wpAny_bind (wpAny_callSpecial?_slot (name := Str.ofString "__getitem__") ht.typeIs PyProof.Rows.slot_tuple_getitem
    (wpAny_call_entry PyProof.Rows.slot_tuple_getitem ht.typeIs entry_tuple_getitem ?_ (args_tuple_getitem _ _)))
  show wpAny _ _ (Builtin.Tuple.tupleItemsOf (.ref t) >>= _) _ _ s
  refine wpAny_bind (tupleItemsOf_ ht ?_)
  refine wpAny_bind (wpAny_typeOf hTs ?_)
  rw [if_pos (by decide)]
  refine wpAny_bind (sliceApplied_gen hs pl pu ?_)
  have hno : ¬ ((((sIx items.size 0 lo : Nat) : Int) == 0 && (1 : Int) == 1 && (sIx items.size items.size hi - sIx items.size 0 lo) == items.size) = true) := by
    intro q
    rw [Bool.and_eq_true, Bool.and_eq_true] at q
    have q1 : ((sIx items.size 0 lo : Nat) : Int) = 0 := eq_of_beq q.1.1
    have q2 : sIx items.size items.size hi - sIx items.size 0 lo = items.size := eq_of_beq q.2
    exact hw ⟨by omega, by omega⟩
  show wpAny _ _ (if (((sIx items.size 0 lo : Nat) : Int) == 0 && (1 : Int) == 1 && (sIx items.size items.size hi - sIx items.size 0 lo) == items.size) = true then _ else _) _ _ s
  rw [if_neg hno, pick_gen]
  first
    | exact wpAny_bind (m := Builtin.Tuple.tupleExact _) (wpAny_newObj_type (wpAny_pure ⟨_, rfl, wpAny_pure h⟩) htake)
    | exact wpAny_bind (m := Builtin.Tuple.tupleExact _) (wpAny_newObj_type (wpAny_bind (wpAny_pure (wpAny_pure ⟨_, rfl, wpAny_pure h⟩))) htake)
    | exact wpAny_bind (wpAny_bind (m := Builtin.Tuple.tupleExact _) (wpAny_newObj_type (wpAny_pure (wpAny_pure ⟨_, rfl, wpAny_pure h⟩)) htake))
    | exact wpAny_bind (wpAny_bind (m := Builtin.Tuple.tupleExact _) (wpAny_newObj_type (wpAny_pure ⟨_, rfl, wpAny_pure h⟩) htake))
end
end HT

namespace L2
open PySem PySem.Spec PyProof.Rows

/-! ### the parts of a slice -/
abbrev TO := St → Hp → (Option Int → Hp → Prop) → Prop
/-- a slice's part (left out, or an int) -/
def PO (X : Cx) (e : Option Expr) (t : TO) : Prop :=
  ∀ (pins : List (Addr × Obj)) (s : Shared) (σ : St) (H : Hp) (Q : Option Int → Hp → Prop), Inv X pins σ H s → t σ H Q →
    wpAny (model X.prog X.w) X.A (evalPart e X.env) (fun u s' => ∃ o H', Inv X pins σ H' s' ∧ IsPart u o ∧ Q o H') X.xe s
def tNoPart : TO := fun _ H Q => Q none H
def tPart (t : TE) : TO := fun σ H Q => t σ H fun x H1 => ∃ i, x = .int i ∧ Q (some i) H1

section
variable {X : Cx} {e : Expr} {te : TE} {lo hi : Option Expr} {tl th : TO} {pos p2 : Pos}

theorem po_none : PO X none tNoPart := by
  intro pins s σ H Q I h
  rw [evalPart_none]
  exact wpAny_pure ⟨none, H, I, .none, h⟩
theorem po_some (h : PE X e te) : PO X (some e) (tPart te) := by
  intro pins s σ H Q I hw
  rw [evalPart_some]
  refine thn (h pins s σ H _ I hw) fun u s1 ⟨x, H1, I1, r1, q1⟩ => ?_
  obtain ⟨i, rfl, q⟩ := q1
  obtain ⟨t, rfl⟩ := r1
  exact ⟨some i, H1, I1, .int i t, q⟩

/-- what a slice of a value is, by values: the slice object stands at sl -/
def SlR (X : Cx) (r : V → Option Int → Option Int → Hp → VK → Prop) : Prop :=
  ∀ (pins : List (Addr × Obj)) (s : Shared) (σ : St) (H : Hp) (x : V) (v vl vu : Value) (lo hi : Option Int) (sl : Addr) (Q : VK), Inv X pins σ H s → RelV x v → s.heap.IsSliceOf sl vl vu .none → IsPart vl lo → IsPart vu hi → r x lo hi H Q →
    ∃ T id, typeLookup (.type T) "__getitem__" = pure (some (.builtin id)) ∧ s.TypeIs v T ∧ wpAny (model X.prog X.w) X.A (getItem v (.ref sl)) (EP X pins σ Q) X.xe s
def tSl (r : V → Option Int → Option Int → Hp → VK → Prop) (te : TE) (tl th : TO) : TE := fun σ H Q => te σ H fun x H1 => tl σ H1 fun l H2 => th σ H2 fun u H3 => r x l u H3 Q
/-- a[lo:hi], any a -/
theorem pe_slice {r : V → Option Int → Option Int → Hp → VK → Prop} (hr : SlR X r) (he : PE X e te) (hl : PO X lo tl) (hu : PO X hi th) : PE X (.Subscript e (.Slice lo hi none p2) pos) (tSl r te tl th) := by
  intro pins s σ H Q I h
  refine Subscript_ (thn (he pins s σ H _ I h) fun v s1 ⟨x, H1, I1, r1, q1⟩ => ?_)
  refine wpAny_Slice (thn (hl pins s1 σ H1 _ I1 q1) fun vl s2 ⟨l, H2, I2, pl, q2⟩ => thn (hu pins s2 σ H2 _ I2 q2) fun vu s3 ⟨u, H3, I3, pu, q3⟩ => ?_)
  rw [evalPart_none]
  refine wpAny_pure ?_
  have I4 : Inv X pins σ H3 { s3 with heap := s3.heap.push { cls := .type "slice", data := .fields #[vl, vu, .none] } } := I3.kept (t' := s3.toks) fun b ob q => Heap.get?_push_of_some _ q
  obtain ⟨T, id, hT, ht, hg⟩ := hr pins { s3 with heap := s3.heap.push { cls := .type "slice", data := .fields #[vl, vu, .none] } } σ H3 x v vl vu l u s3.heap.objs.size Q I4 r1 (Heap.IsSliceOf.new ..) pl pu q3
  show wpAny (model X.prog X.w) X.A (subscriptTail e (.Slice lo hi none p2) v (.ref s3.heap.objs.size)) (EP X pins σ Q) X.xe { s3 with heap := s3.heap.push { cls := .type "slice", data := .fields #[vl, vu, .none] } }
  exact tail_any (ops := [.ref s3.heap.objs.size, v]) ht hT hg (by with_unfolding_all rfl)

/-- the items of xs[lo:hi] -/
def cutV (xs : List V) (lo hi : Option Int) : List V := (xs.drop (HT.sIx xs.length 0 lo)).take (HT.sIx xs.length xs.length hi - HT.sIx xs.length 0 lo)
theorem cutV_length (xs : List V) (lo hi : Option Int) : (cutV xs lo hi).length ≤ xs.length := by
  unfold cutV
  rw [List.length_take, List.length_drop]
  omega
/-- t[lo:hi], not the whole of it (the whole would be t itself) -/
def rSlT (K : PySem.W.Frag) : V → Option Int → Option Int → Hp → VK → Prop := fun x lo hi H Q => ∃ a xs, x = .ref a ∧ SqT K H a xs ∧
  ¬ (HT.sIx xs.length 0 lo = 0 ∧ HT.sIx xs.length xs.length hi = xs.length) ∧ ∀ p, H p = none → Q (.ref p) (upd H p (.tup (cutV xs lo hi)))
theorem sl_tup : SlR X (rSlT X.K) := by
  intro pins s σ H x v vl vu lo hi sl Q I rx hs pl pu h
  obtain ⟨a, xs, rfl, hx, hw, q⟩ := h
  cases rx
  obtain ⟨its, r, ht, hz⟩ := I.tuple hx
  have hlen : its.toArray.size = xs.length := by rw [List.size_toArray]; exact r.length.symm
  refine ⟨"tuple", _, PyProof.Rows.slot_tuple_getitem.lookup, ht.typeIs, ?_⟩
  refine HT.getItem_tuple_cut ht hs pl pu (by rw [hlen]; exact hw) ?_ (by rw [hlen]; exact hz)
  rw [hlen]
  refine ⟨.ref s.heap.objs.size, _, I.laid (t' := s.toks) (o := .tup (cutV xs lo hi)) (fun b ob q => Heap.get?_push_of_some _ q) (Nat.le_refl _) ?_, rfl, q _ (I.hok.fresh (Nat.le_refl _))⟩
  exact ⟨Nat.le_trans (cutV_length xs lo hi) hz, _, (r.drop (HT.sIx xs.length 0 lo)).take (HT.sIx xs.length xs.length hi - HT.sIx xs.length 0 lo), IsTup.new _ _⟩

/-! ### t < u, t + u -/
def rLtT (K : PySem.W.Frag) : R2 := fun x y H Q => ∃ a b ns ms, x = .ref a ∧ y = .ref b ∧ SqT K H a (ns.map V.int) ∧ SqT K H b (ms.map V.int) ∧ Q (.bl (HT.lexLt ns ms)) H
/-- t + u, t not empty: u empty gives t itself -/
def rCatT (K : PySem.W.Frag) : R2 := fun x y H Q => ∃ a b xs ys, x = .ref a ∧ y = .ref b ∧ SqT K H a xs ∧ SqT K H b ys ∧ xs ≠ [] ∧ xs.length + ys.length ≤ sizeLine ∧
  (ys = [] → Q (.ref a) H) ∧ (ys ≠ [] → ∀ p, H p = none → Q (.ref p) (upd H p (.tup (xs ++ ys))))
end
end L2

namespace L2
open PySem PySem.Spec PyProof.Rows

/-! ### places -/
/-- the place that an index of any sign means -/
def ixN (n : Nat) (i : Int) : Option Nat := if 0 ≤ i then (if i < n then some i.toNat else none) else if -(n : Int) ≤ i then some (i + n).toNat else none
def atI {α : Type} (xs : List α) (i : Int) : Option α := (ixN xs.length i).bind fun j => xs[j]?
theorem ixN_seq {n : Nat} {i : Int} {j : Nat} (h : ixN n i = some j) : seqIndex? i n = some j ∧ j < n ∧ -(n : Int) ≤ i ∧ i < n := by
  unfold ixN at h
  by_cases h0 : 0 ≤ i
  · rw [if_pos h0] at h
    by_cases h1 : i < n
    · rw [if_pos h1] at h
      have e : i.toNat = j := Option.some.inj h
      exact ⟨by rw [seqIndex_of h0 h1, e], by omega, by omega, h1⟩
    · rw [if_neg h1] at h; cases h
  · rw [if_neg h0] at h
    by_cases h1 : -(n : Int) ≤ i
    · rw [if_pos h1] at h
      have e : (i + n).toNat = j := Option.some.inj h
      exact ⟨by rw [seqIndex_neg (by omega) h1, e], by omega, h1, by omega⟩
    · rw [if_neg h1] at h; cases h
theorem atI_get {α : Type} {xs : List α} {i : Int} {v : α} (h : atI xs i = some v) : ∃ j, seqIndex? i xs.length = some j ∧ xs[j]? = some v ∧ j < xs.length ∧ -(xs.length : Int) ≤ i ∧ i < xs.length := by
  unfold atI at h
  cases e : ixN xs.length i with
  | none => rw [e] at h; cases h
  | some j =>
    rw [e] at h
    obtain ⟨h1, h2, h3, h4⟩ := ixN_seq e
    exact ⟨j, h1, h, h2, h3, h4⟩
theorem atI_nat {α : Type} {xs : List α} {j : Nat} {v : α} (h : xs[j]? = some v) : atI xs (j : Int) = some v := by
  have hj : j < xs.length := (List.getElem?_eq_some_iff.mp h).1
  have e : ixN xs.length (j : Int) = some j := by
    unfold ixN
    rw [if_pos (by omega), if_pos (by omega)]; simp
  unfold atI; rw [e]; exact h
/-! ### what may be subscripted -/
/-- what stands as an index of a plain subscript -/
def PlainIx (b : Expr) : Prop := ∀ o i, subscripted b false o i = operate [o, i] (getItem o i)
/-- a subscript by values -/
def IxR (X : Cx) (r : R2) : Prop :=
  ∀ (value slice : Expr) (pins : List (Addr × Obj)) (s : Shared) (σ : St) (H : Hp) (x y : V) (v u : Value) (Q : VK), Inv X pins σ H s → RelV x v → RelV y u → r x y H Q →
    subscripted slice false v u = operate [v, u] (getItem v u) → wpAny (model X.prog X.w) X.A (subscriptTail value slice v u) (EP X pins σ Q) X.xe s
/-- a call of a builtin's method by values: the receiver, the arguments -/
def MtR (X : Cx) (id : String) (r : V → List V → Hp → VK → Prop) : Prop :=
  ∀ (pins : List (Addr × Obj)) (s : Shared) (σ : St) (H : Hp) (x : V) (xs : List V) (v : Value) (us : List Value) (Q : VK), Inv X pins σ H s → RelV x v → Vals xs us → r x xs H Q →
    wpAny (model X.prog X.w) X.A (call (.builtin id) (v :: us)) (EP X pins σ Q) X.xe s
section
variable {X : Cx} {a b : Expr} {ta tb : TE} {pos : Pos}
/-- a[b] -/
theorem pe_ix {r : R2} (hr : IxR X r) (ha : PE X a ta) (hb : PE X b tb) (hs : PlainIx b) : PE X (.Subscript a b pos) (tOp r ta tb) := by
  intro pins s σ H Q I h
  exact Subscript_ (binT ha hb I h fun v u s2 x y H2 I2 rx ry q => hr a b pins s2 σ H2 x y v u Q I2 rx ry q (hs _ _))

def rIxL (K : PySem.W.Frag) : R2 := fun x y H Q => ∃ p xs i v, x = .ref p ∧ y = .int i ∧ SqL K H p xs ∧ atI xs i = some v ∧ Q v H
def rIxT (K : PySem.W.Frag) : R2 := fun x y H Q => ∃ p xs i v, x = .ref p ∧ y = .int i ∧ SqT K H p xs ∧ atI xs i = some v ∧ Q v H
def rIxS : R2 := fun x y H Q => ∃ z i c, x = .str z ∧ y = .int i ∧ z.length ≤ sizeLine ∧ atI z.cps.toList i = some c ∧ Q (.str ⟨#[c]⟩) H
theorem ix_list : IxR X (rIxL X.K) := by
  intro value slice pins s σ H x y v u Q I rx ry h hs
  obtain ⟨p, xs, i, z, rfl, rfl, hq, he, q⟩ := h
  cases rx
  obtain ⟨t, rfl⟩ := ry
  obtain ⟨its, r, pl, hz⟩ := I.list hq
  obtain ⟨j, h1, h2, h3, h4, h5⟩ := atI_get he
  obtain ⟨w, ew, rw'⟩ := r.get h2
  have hl := r.length
  have hn := line63
  have fin : EP X pins σ Q w s := ⟨z, H, I, rw', q⟩
  by_cases h0 : 0 ≤ i
  · have hj : i.toNat = j := by
      rw [seqIndex_of h0 h5] at h1
      exact Option.some.inj h1
    exact item_listR pl.isList h0 (by omega) (by rw [hj]; simpa using ew) fin hs
  · have hj : (i + (its.toArray.size : Int)).toNat = j := by
      rw [seqIndex_neg (by omega) h4] at h1
      rw [List.size_toArray, ← hl]
      exact Option.some.inj h1
    exact subscriptTail_builtinR (x := w) pl.isList.typeIs slot_list_getitem.lookup
      (wpAny_getItem_list_neg (Q := fun r s' => r = w ∧ EP X pins σ Q r s') pl.isList (by omega) (by rw [List.size_toArray] <;> omega) (by omega) (by rw [hj]; simpa using ew) ⟨rfl, fin⟩) hs
theorem ix_tup : IxR X (rIxT X.K) := by
  intro value slice pins s σ H x y v u Q I rx ry h hs
  obtain ⟨p, xs, i, z, rfl, rfl, hq, he, q⟩ := h
  cases rx
  obtain ⟨t, rfl⟩ := ry
  obtain ⟨its, r, pl, hz⟩ := I.tuple hq
  obtain ⟨j, h1, h2, h3, h4, h5⟩ := atI_get he
  obtain ⟨w, ew, rw'⟩ := r.get h2
  have hl := r.length
  have hn := line63
  have fin : EP X pins σ Q w s := ⟨z, H, I, rw', q⟩
  exact subscriptTail_builtinR (x := w) pl.typeIs slot_tuple_getitem.lookup
    (getItem_tuple (j := j) (Q := fun r s' => r = w ∧ EP X pins σ Q r s') pl (by omega) (by omega) (by rw [List.size_toArray, ← hl]; exact h1) (by simpa using ew) ⟨rfl, fin⟩) hs
theorem ix_str : IxR X rIxS := by
  intro value slice pins s σ H x y v u Q I rx ry h hs
  obtain ⟨z, i, c, rfl, rfl, hz, he, q⟩ := h
  obtain ⟨t, rfl⟩ := rx
  obtain ⟨t', rfl⟩ := ry
  obtain ⟨j, h1, h2, h3, h4, h5⟩ := atI_get he
  have hl : z.cps.toList.length = z.length := by simp [Str.length]
  rw [hl] at h1 h4 h5
  have hn := line63
  exact tail_any (typeIs_str s z t) slot_str_getitem.lookup (getItem_str (c := c) (by
    have e1 : decide (i < -(2 ^ 63 : Int)) = false := decide_eq_false (by omega)
    have e2 : decide (i ≥ 2 ^ 63) = false := decide_eq_false (by omega)
    rw [e1, e2, Bool.or_false]) (by rw [h1]; simpa using h2) ⟨.str ⟨#[c]⟩, H, I.tok _, ⟨_, rfl⟩, q⟩) hs
/-- list, tuple or str -/
def rIx (K : PySem.W.Frag) : R2 := fun x y H Q => rIxL K x y H Q ∨ rIxT K x y H Q ∨ rIxS x y H Q
/-! ### xs[i] = v, any sign -/
def rSetL : V → V → V → Hp → (Hp → Prop) → Prop := fun o i v H Q => ∃ p xs k j, o = .ref p ∧ i = .int k ∧ H p = some (.lst xs) ∧ ixN xs.length k = some j ∧ Q (upd H p (.lst (xs.set j v)))
/-! ### slices -/
theorem slice_bounds (lo hi : Option Int) (n : Nat) : (sliceBounds lo hi none n).1 = ((HT.sIx n 0 lo : Nat) : Int) ∧ (sliceBounds lo hi none n).2.1 = ((HT.sIx n n hi : Nat) : Int) ∧ (sliceBounds lo hi none n).2.2 = 1 := by
  refine ⟨?_, ?_, rfl⟩
  · cases lo with
    | none => simp [sliceBounds, HT.sIx]
    | some i =>
      simp only [sliceBounds, HT.sIx, Option.getD_none, show (1 : Int) > 0 by decide, if_true]
      by_cases h : i < 0
      · simp only [h, if_true] <;> omega
      · simp only [h, if_false] <;> omega
  · cases hi with
    | none => simp [sliceBounds, HT.sIx]
    | some i =>
      simp only [sliceBounds, HT.sIx, Option.getD_none, show (1 : Int) > 0 by decide, if_true]
      by_cases h : i < 0
      · simp only [h, if_true] <;> omega
      · simp only [h, if_false] <;> omega
theorem slicePick_cut (its : List Value) (lo hi : Option Int) : slicePick its.toArray lo hi none = ((its.drop (HT.sIx its.length 0 lo)).take (HT.sIx its.length its.length hi - HT.sIx its.length 0 lo)).toArray := by
  obtain ⟨h1, h2, h3⟩ := slice_bounds lo hi its.toArray.size
  unfold slicePick
  rw [h1, h2, h3]
  simp only [sliceRange_one, pick_run, List.size_toArray] <;> rfl
/-- xs[lo:hi] of a list: a new list -/
def rSlL (K : PySem.W.Frag) : V → Option Int → Option Int → Hp → VK → Prop := fun x lo hi H Q => ∃ a xs, x = .ref a ∧ SqL K H a xs ∧ ∀ p, H p = none → Q (.ref p) (upd H p (.lst (cutV xs lo hi)))
theorem sl_list : SlR X (rSlL X.K) := by
  intro pins s σ H x v vl vu lo hi sl Q I rx hs pl pu h
  obtain ⟨a, xs, rfl, hx, q⟩ := h
  cases rx
  obtain ⟨its, r, ht, hz⟩ := I.list hx
  have hlen := r.length
  refine ⟨"list", _, slot_list_getitem.lookup, ht.isList.typeIs, ?_⟩
  refine wpAny_getItem_list_slice ht.isList hs pl pu .none (by simp) ?_ (by rw [List.size_toArray] <;> omega)
  rw [slicePick_cut, ← hlen]
  refine ⟨.ref s.heap.objs.size, _, I.laid (t' := s.toks) (o := .lst (cutV xs lo hi)) (fun b ob q => Heap.get?_push_of_some _ q) (Nat.le_refl _) ?_, rfl, q _ (I.hok.fresh (Nat.le_refl _))⟩
  exact ⟨Nat.le_trans (cutV_length xs lo hi) hz, _, 0, (r.drop (HT.sIx xs.length 0 lo)).take (HT.sIx xs.length xs.length hi - HT.sIx xs.length 0 lo), Heap.get?_push_size _ rfl⟩

/-! ### in, not in: flat items -/
def flatV : V → Bool
  | .non => true
  | .bl _ => true
  | .int _ => true
  | .str _ => true
  | _ => false
/-- == of flat values -/
def eqV : V → V → Bool
  | .non, .non => true
  | .bl a, .bl b => a == b
  | .bl a, .int b => (if a then 1 else 0) == b
  | .int a, .bl b => a == (if b then 1 else 0)
  | .int a, .int b => a == b
  | .str a, .str b => a == b
  | _, _ => false
theorem eqAt_V {A : Around} {s : Shared} {y x : V} {u v : Value} (ry : RelV y u) (rx : RelV x v) (fy : flatV y = true) (fx : flatV x = true) : SeqAt.EqAt A s u v (eqV y x) := by
  cases y with
  | non =>
    cases ry
    cases x with
    | non => cases rx; exact SeqAt.EqAt.same _
    | bl b => cases rx; exact SeqAt.EqAt.none_bool b
    | int b => obtain ⟨t, rfl⟩ := rx; exact SeqAt.EqAt.none_int b t
    | str b => obtain ⟨t, rfl⟩ := rx; exact SeqAt.EqAt.none_str b t
    | _ => exact absurd (show false = true from fx) Bool.false_ne_true
  | bl a =>
    cases ry
    cases x with
    | non => cases rx; exact SeqAt.EqAt.bool_none a
    | bl b => cases rx; exact SeqAt.EqAt.bool_bool a b
    | int b => obtain ⟨t, rfl⟩ := rx; exact SeqAt.EqAt.bool_int a b t
    | str b => obtain ⟨t, rfl⟩ := rx; exact SeqAt.EqAt.bool_str a b t
    | _ => exact absurd (show false = true from fx) Bool.false_ne_true
  | int a =>
    obtain ⟨t', rfl⟩ := ry
    cases x with
    | non => cases rx; exact SeqAt.EqAt.int_none a t'
    | bl b => cases rx; exact SeqAt.EqAt.int_bool a t' b
    | int b => obtain ⟨t, rfl⟩ := rx; exact SeqAt.EqAt.int_int a t' b t
    | str b => obtain ⟨t, rfl⟩ := rx; exact SeqAt.EqAt.int_str a t' b t
    | _ => exact absurd (show false = true from fx) Bool.false_ne_true
  | str a =>
    obtain ⟨t', rfl⟩ := ry
    cases x with
    | non => cases rx; exact SeqAt.EqAt.str_none a t'
    | bl b => cases rx; exact SeqAt.EqAt.str_bool a t' b
    | int b => obtain ⟨t, rfl⟩ := rx; exact SeqAt.EqAt.str_int a t' b t
    | str b => obtain ⟨t, rfl⟩ := rx; exact SeqAt.EqAt.str_str a t' b t
    | _ => exact absurd (show false = true from fx) Bool.false_ne_true
  | _ => exact absurd (show false = true from fy) Bool.false_ne_true
/-- the items' answers, read off the values (a value's own answer does not lean on its token) -/
def eqU (x : V) (u : Value) : Bool := match u with
  | .none => eqV .non x
  | .bool b => eqV (.bl b) x
  | .int i _ => eqV (.int i) x
  | .str z _ => eqV (.str z) x
  | _ => false
theorem eqU_of {x y : V} {u : Value} (r : RelV y u) (f : flatV y = true) : eqU x u = eqV y x := by
  cases y with
  | non => cases r; rfl
  | bl b => cases r; rfl
  | int i => obtain ⟨t, rfl⟩ := r; rfl
  | str z => obtain ⟨t, rfl⟩ := r; rfl
  | _ => exact absurd (show false = true from f) Bool.false_ne_true
theorem any_eqU {x : V} : ∀ {xs : List V} {us : List Value}, Vals xs us → xs.all flatV = true → us.any (eqU x) = xs.any fun y => eqV y x
  | _, _, .nil, _ => rfl
  | y :: xs, u :: us, .cons r t, f => by
    rw [List.all_cons, Bool.and_eq_true] at f
    rw [List.any_cons, List.any_cons, eqU_of r f.1, any_eqU t f.2]
theorem mem_eqAt {A : Around} {s : Shared} {x : V} {v : Value} (rx : RelV x v) (fx : flatV x = true) : ∀ {xs : List V} {us : List Value}, Vals xs us → xs.all flatV = true → ∀ u ∈ us, SeqAt.EqAt A s u v (eqU x u)
  | _, _, .nil, _ => fun u hu => by cases hu
  | y :: xs, u :: us, .cons r t, f => fun u' hu => by
    rw [List.all_cons, Bool.and_eq_true] at f
    rcases List.mem_cons.mp hu with rfl | hu
    · rw [eqU_of r f.1]; exact eqAt_V r rx f.1 fx
    · exact mem_eqAt rx fx t f.2 u' hu
def inV (x : V) (xs : List V) : Bool := xs.any fun y => eqV y x
/-- x in a list or tuple of flat items -/
def rIn (K : PySem.W.Frag) (neg : Bool) : R2 := fun x y H Q => ∃ p xs, y = .ref p ∧ (SqL K H p xs ∨ SqT K H p xs) ∧ flatV x = true ∧ xs.all flatV = true ∧ Q (.bl (if neg then !inV x xs else inV x xs)) H
theorem op_in_seq : OpR X (compareOp .In) (rIn X.K false) := by
  intro pins s σ H x y v u Q I rx ry h
  obtain ⟨p, xs, rfl, hq, fx, fs, q⟩ := h
  cases ry
  rcases hq with hq | hq
  · obtain ⟨its, r, pl, hz⟩ := I.list hq
    refine SeqAt.in_listAt (eqU x) pl.isList (fun w hw => mem_eqAt rx fx r fs w (by simpa using hw)) ⟨.bl _, H, I, rfl, ?_⟩
    rw [show its.toArray.any (eqU x) = its.any (eqU x) by simp, any_eqU r fs]
    exact q
  · obtain ⟨its, r, pl, hz⟩ := I.tuple hq
    refine SeqAt.in_tupleAt (eqU x) pl (fun w hw => mem_eqAt rx fx r fs w (by simpa using hw)) ⟨.bl _, H, I, rfl, ?_⟩
    rw [show its.toArray.any (eqU x) = its.any (eqU x) by simp, any_eqU r fs]
    exact q
/-! ### len, list(x), tuple(x) of any list or tuple that is read -/
theorem call_len_seq : CallR X (.builtin "len") (fun xs H Q => ∃ p ys, xs = [.ref p] ∧ (SqL X.K H p ys ∨ SqT X.K H p ys) ∧ Q (.int ys.length) H) := by
  intro pins s σ H xs us Q I r h
  obtain ⟨p, ys, rfl, hq, q⟩ := h
  obtain ⟨u, rfl, rx⟩ := vals1 r
  cases rx
  have hn := line63
  rcases hq with hq | hq
  · obtain ⟨its, r', pl, hz⟩ := I.list hq
    have hlen := r'.length
    exact Calls.call_len_list pl.isList (by simp only [List.size_toArray] <;> omega) ⟨.int ys.length, H, I.tok _, ⟨s.toks + 1, by rw [List.size_toArray, hlen]⟩, q⟩
  · obtain ⟨its, r', pl, hz⟩ := I.tuple hq
    have hlen := r'.length
    exact len_tuple pl (by simp only [List.size_toArray] <;> omega) ⟨.int ys.length, H, I.tok _, ⟨s.toks + 1, by rw [List.size_toArray, hlen]⟩, q⟩
theorem call_len_str : CallR X (.builtin "len") (fun xs H Q => ∃ z, xs = [.str z] ∧ z.length ≤ sizeLine ∧ Q (.int z.length) H) := by
  intro pins s σ H xs us Q I r h
  obtain ⟨z, rfl, hz, q⟩ := h
  obtain ⟨u, rfl, t, rfl⟩ := vals1 r
  have hn := line63
  exact len_str (by omega) ⟨.int z.length, H, I.tok _, ⟨_, rfl⟩, q⟩
theorem CallR.or {f : Value} {r r' : List V → Hp → VK → Prop} (h : CallR X f r) (h' : CallR X f r') : CallR X f (fun xs H Q => r xs H Q ∨ r' xs H Q) := by
  intro pins s σ H xs us Q I rs q
  rcases q with q | q
  · exact h pins s σ H xs us Q I rs q
  · exact h' pins s σ H xs us Q I rs q
theorem call_list_of : CallR X (.type "list") (fun xs H Q => ∃ p ys, xs = [.ref p] ∧ (SqL X.K H p ys ∨ SqT X.K H p ys) ∧ ∀ l, H l = none → Q (.ref l) (upd H l (.lst ys))) := by
  intro pins s σ H xs us Q I r h
  obtain ⟨p, ys, rfl, hq, q⟩ := h
  obtain ⟨u, rfl, rx⟩ := vals1 r
  cases rx
  have fin : ∀ (its : List Value), Vals ys its → ys.length ≤ sizeLine → ∀ (h' : Heap) (c' : Nat), (∀ b o', s.heap.get? b = some o' → h'.get? b = some o') →
      h'.get? s.heap.objs.size = some { cls := .type "list", dict := none, data := .seq its.toArray c', slots := #[] } → EP X pins σ Q (.ref s.heap.objs.size) { s with heap := h' } := fun its r' hz h' c' kp e =>
    ⟨.ref s.heap.objs.size, _, I.laid (t' := s.toks) kp (Nat.le_refl _) (show ObjOk X.prog X.w _ h' _ (.lst ys) from ⟨hz, its, c', r', e⟩), rfl, q _ (I.hok.fresh (Nat.le_refl _))⟩
  rcases hq with hq | hq
  · obtain ⟨its, r', pl, hz⟩ := I.list hq
    have hlen := r'.length
    obtain ⟨o, ho, hc, n, hd⟩ := pl.isList
    exact call_list_seq p (.inl rfl) ho hc hd (fun h' c' kp e => fin its r' hz h' c' kp e) (by simp only [List.size_toArray] <;> omega)
  · obtain ⟨its, r', pl, hz⟩ := I.tuple hq
    have hlen := r'.length
    obtain ⟨o, ho, hc, n, hd⟩ := pl
    exact call_list_seq p (.inr rfl) ho hc hd (fun h' c' kp e => fin its r' hz h' c' kp e) (by simp only [List.size_toArray] <;> omega)
/-! ### the call of a builtin's method: o.m(..) -/
/-- the value is of that builtin type -/
def tyV (K : PySem.W.Frag) (T : String) (x : V) (H : Hp) : Prop := match x with
  | .str _ => T = "str"
  | .int _ => T = "int"
  | .ref p => (T = "list" ∧ ∃ xs, SqL K H p xs) ∨ (T = "tuple" ∧ ∃ o, K.lookup p = some o ∧ o.cls = .type "tuple" ∧ o.dict = none) ∨
      (T = "dict" ∧ ((∃ kvs, H p = some (.dK kvs)) ∨ ∃ kvs, H p = some (.dT kvs))) ∨ (T = "set" ∧ ∃ S n, H p = some (.set S n))
  | _ => False
theorem tyV_is {pins : List (Addr × Obj)} {σ : St} {H : Hp} {s : Shared} {T : String} {x : V} {v : Value} (I : Inv X pins σ H s) (r : RelV x v) (ty : tyV X.K T x H) :
    s.TypeIs v T ∧ ∀ a, v = .ref a → ∃ ob, s.heap.get? a = some ob ∧ ob.dict = none := by
  cases x with
  | str z =>
    obtain ⟨t, rfl⟩ := r
    cases (show T = "str" from ty)
    exact ⟨typeIs_str s z t, fun _ e => nomatch e⟩
  | int i =>
    obtain ⟨t, rfl⟩ := r
    cases (show T = "int" from ty)
    exact ⟨typeIs_int s i t, fun _ e => nomatch e⟩
  | ref p =>
    cases r
    rcases ty with ⟨rfl, xs, hq⟩ | ⟨rfl, o, hk, hc, hd⟩ | ⟨rfl, hk⟩ | ⟨rfl, S, n, hk⟩
    · obtain ⟨its, _, pl, _⟩ := I.list hq
      refine ⟨pl.isList.typeIs, fun a e => ?_⟩
      cases e
      obtain ⟨o, n, e, c, hd, _⟩ := pl
      exact ⟨o, e, hd⟩
    · refine ⟨⟨o, I.kIn p o hk, hc⟩, fun a e => ?_⟩
      cases e
      exact ⟨o, I.kIn _ o hk, hd⟩
    · have z : ∃ o, s.heap.get? p = some o ∧ o.ExactDict := by
        rcases hk with ⟨kvs, hk⟩ | ⟨kvs, hk⟩
        · obtain ⟨_, _, _, _, o, _, _, e, ex, _⟩ := I.hok p _ hk
          exact ⟨o, e, ex⟩
        · obtain ⟨_, _, _, _, o, _, _, e, ex, _⟩ := I.hok p _ hk
          exact ⟨o, e, ex⟩
      obtain ⟨o, e, ex⟩ := z
      refine ⟨⟨o, e, ex.1⟩, fun a e2 => ?_⟩
      cases e2
      exact ⟨o, e, ex.2.1⟩
    · obtain ⟨o, _, _, _, e, ex, _⟩ := I.hok p _ hk
      refine ⟨⟨o, e, ex.1⟩, fun a e2 => ?_⟩
      cases e2
      exact ⟨o, e, ex.2.1⟩
  | _ => exact False.elim ty
def tBM0 (K : PySem.W.Frag) (T : String) (r : V → List V → Hp → VK → Prop) (to : TE) : TE := fun σ H Q => to σ H fun x H1 => tyV K T x H1 ∧ r x [] H1 Q
def tBM (K : PySem.W.Frag) (T : String) (r : V → List V → Hp → VK → Prop) (to : TE) (t : TA) : TE := fun σ H Q => to σ H fun x H1 => tyV K T x H1 ∧ t σ H1 fun xs H2 => r x xs H2 Q
variable {o e : Expr} {es : List Expr} {to : TE} {t : TA} {name : Str} {apos cpos : Pos} {T id : String} {r : V → List V → Hp → VK → Prop}
theorem pe_bm0 (pa : PlainAttrs T) (slot : Slot T name id) (hty : typeOf (.builtin id) = pure (.type "method_descriptor")) (hm : MtR X id r) (ho : PE X o to)
    (hbase : attributeBase o name X.env (eval o X.env) = eval o X.env := by rfl) (hline : (apos.endLine == cpos.line) = true := by rfl) : PE X (.Call (.Attribute o name apos) [] [] cpos) (tBM0 X.K T r to) := by
  intro pins s σ H Q I h
  refine wpAny_Call_method0_late hbase hline (thn (ho pins s σ H _ I h) fun v s1 ⟨x, H1, I1, r1, ty, q1⟩ => ?_)
  obtain ⟨h1, h2⟩ := tyV_is I1 r1 ty
  exact ⟨T, id, pa, slot, hty, h1, h2, Calls.callWith_builtin rfl (PySem.evalArgs_none (hm pins s1 σ H1 x [] v [] Q I1 r1 .nil q1))⟩
theorem pe_bm (pa : PlainAttrs T) (slot : Slot T name id) (hty : typeOf (.builtin id) = pure (.type "method_descriptor")) (hm : MtR X id r) (ho : PE X o to) (ha : PA X (e :: es) t)
    (hbase : attributeBase o name X.env (eval o X.env) = eval o X.env := by rfl)
    (hfew : ((backTo cpos (starEach (e :: es) X.env)).all (fun x => !x.1) && (backToKw cpos (keywordEach [] X.env)).all (fun x => x.1.isSome)
      && decide ((e :: es).length + ([] : List Keyword).length + (if ([] : List Keyword).isEmpty then 0 else 1) < 30)) = true := by rfl)
    (hline : (apos.endLine == cpos.line) = true := by rfl) (hs : starEach (e :: es) X.env = (false, eval e X.env) :: starEach es X.env := by rfl) (hplain : (backTo cpos (starEach es X.env)).any (·.1) = false := by rfl) :
    PE X (.Call (.Attribute o name apos) (e :: es) [] cpos) (tBM X.K T r to t) := by
  intro pins s σ H Q I h
  refine wpAny_Call_method_late hbase hfew hline rfl (thn (ho pins s σ H _ I h) fun v s1 ⟨x, H1, I1, r1, ty, q1⟩ => ?_)
  obtain ⟨h1, h2⟩ := tyV_is I1 r1 ty
  refine ⟨T, id, pa, slot, hty, h1, h2, ?_⟩
  have hA := ha cpos pins s1 σ H1 _ I1 q1
  rw [hs] at hA ⊢
  refine Calls.callWith_builtin (by show (false || (backTo cpos (starEach es X.env)).any (·.1)) = false; rw [hplain] <;> rfl) (Calls.evalArgs_plain ?_)
  exact thn hA fun us s2 ⟨vs, H2, I2, r2, q2⟩ => hm pins s2 σ H2 x vs v us Q I2 r1 r2 q2
/- xs.append(e), list.index on a module's tuple .. are MtR facts of 06m -/
end
end L2

namespace L2
open PySem PySem.Spec PyProof.Rows

def MtM (X : Cx) (id : String) (r : V → List V → Hp → VK → Prop) : Prop :=
  ∀ (pins : List (Addr × Obj)) (s : Shared) (σ : St) (H : Hp) (x : V) (xs : List V) (v : Value) (us : List Value) (Q : VK), Inv X pins σ H s → RelV x v → Vals xs us → r x xs H Q →
    wpAny (model X.prog X.w) X.A (call (.builtin id) (v :: us)) (EP X pins σ Q) X.xe s

/-! ### lists of values -/
theorem Vals.one : ∀ {x : V} {us : List Value}, Vals [x] us → ∃ u, us = [u] ∧ RelV x u
  | _, _, .cons r .nil => ⟨_, rfl, r⟩
theorem Vals.two : ∀ {x y : V} {us : List Value}, Vals [x, y] us → ∃ u v, us = [u, v] ∧ RelV x u ∧ RelV y v
  | _, _, _, .cons r (.cons q .nil) => ⟨_, _, rfl, r, q⟩
section
variable {X : Cx} {pins : List (Addr × Obj)} {σ : St} {H : Hp} {s : Shared} {l b : Addr} {xs ys zs : List V}

/-! ### the two steps: a tracked list is rewritten, a new list is laid -/
theorem Inv.lnew {its : List Value} {t' : Nat} (I : Inv X pins σ H s) (hv : Vals ys its) (hz : ys.length ≤ sizeLine) :
    Inv X pins σ (upd H s.heap.objs.size (.lst ys)) { s with heap := s.heap.push { cls := .type "list", data := .seq its.toArray }, toks := t' } :=
  I.laid (fun _ _ q => Heap.get?_push_of_some _ q) (Nat.le_refl _) ⟨hz, its, 0, hv, Heap.get?_push_size _ rfl⟩
theorem Inv.fresh (I : Inv X pins σ H s) : H s.heap.objs.size = none := I.hok.fresh (Nat.le_refl _)
theorem Inv.lstM (I : Inv X pins σ H s) (hH : H l = some (.lst xs)) : xs.length ≤ sizeLine ∧ ∃ (its : List Value) (n : Nat), Vals xs its ∧ xs.length = its.length ∧ s.heap.get? l = some { cls := .type "list", data := .seq its.toArray n } := by
  obtain ⟨z, its, n, r, e⟩ := I.hok l _ hH
  exact ⟨z, its, n, r, r.length, e⟩

theorem notLongL {n : Nat} (h : n ≤ sizeLine) : Builtin.List.listTooLong n = false := by
  unfold Builtin.List.listTooLong
  exact decide_eq_false (by omega)
end

section
variable {X : Cx}

/-! ### methods -/
def rAppend : V → List V → Hp → VK → Prop := fun x vs H Q => ∃ l xs y, x = .ref l ∧ vs = [y] ∧ H l = some (.lst xs) ∧ xs.length < sizeLine ∧ Q .non (upd H l (.lst (xs ++ [y])))
def rExtend : V → List V → Hp → VK → Prop := fun x vs H Q => ∃ l b xs zs, x = .ref l ∧ vs = [.ref b] ∧ H l = some (.lst xs) ∧ H b = some (.lst zs) ∧ xs.length + zs.length ≤ sizeLine ∧ Q .non (upd H l (.lst (xs ++ zs)))
def rPop : V → List V → Hp → VK → Prop := fun x vs H Q => ∃ l xs y, x = .ref l ∧ vs = [] ∧ H l = some (.lst xs) ∧ xs[xs.length - 1]? = some y ∧ Q y (upd H l (.lst xs.dropLast))
def rPopAt : V → List V → Hp → VK → Prop := fun x vs H Q => ∃ l xs i k y, x = .ref l ∧ vs = [.int i] ∧ H l = some (.lst xs) ∧ -(2 ^ 63) ≤ i ∧ i < 2 ^ 63 ∧ seqIndex? i xs.length = some k ∧ xs[k]? = some y ∧ Q y (upd H l (.lst (xs.eraseIdx k)))
def rReverse : V → List V → Hp → VK → Prop := fun x vs H Q => ∃ l xs, x = .ref l ∧ vs = [] ∧ H l = some (.lst xs) ∧ Q .non (upd H l (.lst xs.reverse))
def rClear : V → List V → Hp → VK → Prop := fun x vs H Q => ∃ l xs, x = .ref l ∧ vs = [] ∧ H l = some (.lst xs) ∧ Q .non (upd H l (.lst []))
/-! ### list + list, list += list, list * int -/
def rCat : R2 := fun x y H Q => ∃ l b xs zs, x = .ref l ∧ y = .ref b ∧ H l = some (.lst xs) ∧ H b = some (.lst zs) ∧ xs.length + zs.length ≤ sizeLine ∧ ∀ p, H p = none → Q (.ref p) (upd H p (.lst (xs ++ zs)))
theorem op_cat : OpR X (binaryOp .Add) rCat := by
  intro pins s σ H x y v u Q I rx ry h
  obtain ⟨l, b, xs, zs, rfl, rfl, hH, hB, hz, q⟩ := h
  cases rx
  cases ry
  obtain ⟨z, its, n, r, hl, e⟩ := I.lstM hH
  obtain ⟨z2, its2, n2, r2, hl2, e2⟩ := I.lstM hB
  refine PySem.P.add_list e e2 ?_ (by rw [List.size_toArray, List.size_toArray]; omega)
  have ea : its.toArray ++ its2.toArray = (its ++ its2).toArray := by simp
  rw [ea]
  exact ⟨.ref _, _, I.lnew (t' := s.toks) (r.append r2) (by rw [List.length_append]; omega), rfl, q _ I.fresh⟩
/-- a list times an int (a negative one is nothing) -/
def rRep : R2 := fun x y H Q => ∃ l k xs, x = .ref l ∧ y = .int k ∧ H l = some (.lst xs) ∧ -(2 ^ 63) ≤ k ∧ k < 2 ^ 63 ∧ xs.length * k.toNat ≤ sizeLine ∧
  ∀ p, H p = none → Q (.ref p) (upd H p (.lst (List.replicate k.toNat xs).flatten))
/-! ### del xs[i] -/
end

/-! ### xs[a:b] = ys -/
section
variable {prog : Program} {w : World} {A : Around} {E : Value → Shared → Prop} {s : Shared}
theorem bounds_run {a c n : Nat} (hac : a ≤ c) (hc : c ≤ n) : sliceBounds (some (a : Int)) (some (c : Int)) none n = ((a : Int), (c : Int), 1) := by
  simp only [sliceBounds, Option.getD_none]
  have h1 : ¬ ((a : Int) < 0) := by omega
  have h2 : ¬ ((c : Int) < 0) := by omega
  simp only [h1, h2, if_false, show (1 : Int) > 0 by decide, if_true]
  congr 1
  · omega
  · congr 1; omega
set_option maxRecDepth 100000 in
/-- list.__setitem__ with a slice of step one and another list -/
theorem setItem_slice {l b sl : Addr} {items new : Array Value} {n n2 : Nat} {vl vu : Value} {a c : Nat} {Q : Unit → Shared → Prop}
    (e : s.heap.get? l = some { cls := .type "list", data := .seq items n }) (e2 : s.heap.get? b = some { cls := .type "list", data := .seq new n2 }) (hne : l ≠ b)
    (hs : s.heap.IsSliceOf sl vl vu .none) (pl : IsPart vl (some (a : Int))) (pu : IsPart vu (some (c : Int))) (hac : a ≤ c) (hc : c ≤ items.size)
    (hsz : items.size + new.size ≤ sizeLine) (h : Q () { s with heap := s.heap.update l (Obj.mapSeq fun xs => xs.extract 0 a ++ new ++ xs.extract c xs.size) }) :
    wpAny (model prog w) A (setItem (.ref l) (.ref sl) (.ref b)) Q E s := by
  have hl : s.heap.IsList l items := PySem.IsL.isList e
  have hb : s.heap.IsList b new := PySem.IsL.isList e2
  obtain ⟨os, hos, hcs, hds⟩ := id hs
  have hTs : s.TypeIs (.ref sl) "slice" := ⟨os, hos, hcs⟩
  have hstep : ¬ ((rawPart none == rawInt 0) = true) := Bool.false_ne_true
  have hsame : Builtin.List.listSameRef (.ref l) (.ref b) = false := by
    unfold Builtin.List.listSameRef
    exact beq_eq_false_iff_ne.mpr hne
  have hmax : (max (a : Int) (c : Int)).toNat = c := by omega
  have hz' : ((fun xs : Array Value => xs.extract 0 a ++ new ++ xs.extract c xs.size) items).size ≤ sizeLine + 1 := by
    simp only [Array.size_append, Array.size_extract]
    omega
  unfold setItem
  try with_reducible refine wpAny_holding ?_
  first | refine wpAny_bind (wpAny_pure ?_) | skip
  refine wpAny_bind (wpAny_sequenceKey hl.typeIs (by decide) ?_)
  refine wpAny_bind (wpAny_callSpecial?_slot (name := Str.ofString "__setitem__") hl.typeIs slot_list_setitem
    (wpAny_call_entry slot_list_setitem hl.typeIs entry_list_setitem ?_ (args_list_setitem _ _ _)))
  show wpAny _ _ (Builtin.List.listSubscript? (.ref sl) >>= _) _ _ s
  refine wpAny_bind ?_
  unfold Builtin.List.listSubscript?
  refine wpAny_bind (wpAny_specialOf hTs slice_no_index ?_)
  simp only [Option.isNone_none, if_true]
  refine wpAny_pure ?_
  show wpAny _ _ (typeOf (.ref sl) >>= _) _ _ s
  refine wpAny_bind (wpAny_typeOf hTs ?_)
  first
    | rw [if_neg (by decide)]
    | refine PySem.W.KFB.if_not (by decide) ?_
  rw [listSliceParts_eq]
  refine wpAny_bind (wpAny_bind (wpAny_field hos hds (x := .none) rfl (wpAny_bind (wpAny_listPart .none ?_))))
  rw [if_neg hstep]
  refine wpAny_bind (wpAny_field hos hds (x := vl) rfl (wpAny_bind (wpAny_listPart pl ?_)))
  refine wpAny_bind (wpAny_field hos hds (x := vu) rfl (wpAny_bind (wpAny_listPart pu (wpAny_pure ?_))))
  first
    | simp only [hsame, Bool.false_eq_true, if_false]
    | refine PySem.W.KFB.if_not hsame ?_
    | (dsimp only
       rw [if_neg (by rw [hsame]; exact Bool.false_ne_true)])
  refine wpAny_bind (m := Builtin.List.listAllItems (.ref b) "must assign iterable to extended slice") ?_
  unfold Builtin.List.listAllItems
  refine wpAny_bind (wpAny_typeOf hb.typeIs ?_)
  first
    | refine PySem.W.KFB.if_so (by decide) ?_
    | rw [if_pos (by decide)]
    | simp only [beq_self_eq_true, Bool.true_or, if_true]
  unfold Builtin.List.listItems
  refine wpAny_bind (wpAny_seqItems e2 rfl (wpAny_pure ?_))
  refine wpAny_bind (wpAny_bind (wpAny_seqItems e rfl (wpAny_pure ?_)))
  refine wpAny_bind (wpAny_of_eq ((sliceIndices_raw (some (a : Int)) (some (c : Int)) none items.size (by simp)).trans (congrArg (pure : Int × Int × Int → Sem (Int × Int × Int)) (bounds_run hac hc))) ?_)
  show wpAny _ _ (if ((1 : Int) == 1) = true then _ else _) _ _ s
  rw [if_pos (by decide)]
  refine wpAny_bind (wpAny_rule ?_)
  first
    | simp only [notLongL hsz, Bool.false_eq_true, if_false]
    | refine PySem.W.KFB.if_not (notLongL hsz) ?_
  first | refine wpAny_bind (wpAny_pure ?_) | skip
  show wpAny _ _ (updateSeq l (fun xs => xs.extract 0 ((a : Int)).toNat ++ new ++ xs.extract (max (a : Int) (c : Int)).toNat xs.size) >>= _) _ _ s
  rw [hmax, Int.toNat_natCast]
  refine wpAny_bind (wpAny_updateSeq (hz := Nat.le_trans (Nat.le_add_right _ _) hsz) (_hz' := hz') e rfl ?_)
  refine wpAny_bind (wpAny_letGo ?_)
  first
    | exact wpAny_bind (wpAny_pure (wpAny_pure ⟨.none, rfl, wpAny_pure h⟩))
    | exact wpAny_pure ⟨.none, rfl, wpAny_pure h⟩
end

section
variable {X : Cx}
end
end L2

namespace Att
open PySem PySem.W PySem.Calls PyProof.Rows

/-! ### the script -/
theorem ints_of_wellAll {P : Params} {h : Heap} : ∀ (ns : List Int) (vs : List Value), WellAll P h vs (ns.map WData.int) → IntsAre vs ns := by
  intro ns
  induction ns with
  | nil =>
    intro vs w
    rw [List.map_nil] at w
    cases w
    exact .nil
  | cons n ns ih =>
    intro vs w
    rw [List.map_cons] at w
    cases w with
    | cons a b =>
      cases a
      exact .cons _ _ (ih _ b)

theorem script_of {l : OpenLaw} {n : Nat} (hn : l.most = some n) {P : Params} {h : Heap} {args : List WData} {vals : List Value}
    (hpre : l.row.toRowW.claim.pre args = true) (hwl : WellAll P h vals args) :
    ∃ a vs ns, vals = [Value.ref a] ∧ args = [WData.list (ns.map WData.int)] ∧ h.get? a = some { cls := .type "list", data := .seq vs.toArray } ∧ IntsAre vs ns ∧ ns.length ≤ n := by
  have hsh : WShape.hasAll [] args [.list .int] = true := (pre_splitW hpre).1
  have hc : l.pre.holds [] { args := args } = true := (pre_splitW hpre).2
  obtain ⟨d, r, rfl, h1, h2⟩ := hasAllW_cons hsh
  obtain rfl := hasAllW_nil h2
  obtain ⟨xs, rfl, h3⟩ := hasW_list h1
  obtain ⟨ns, rfl⟩ := items_int h3
  have hlen : ns.length ≤ n := by
    unfold OpenLaw.pre at hc
    have h4 : (WTm.not (.lt (.lit (.int (n : Int))) (.len (.arg 0)))).holds [] { args := [.list (ns.map .int)] } = true := by
      have h4 := (holds_andW hc).1
      rw [hn] at h4
      exact h4
    have h5 := condW_of h4 (w_not (w_lt w_lit (w_len_list (w_arg rfl))))
    rw [List.length_map] at h5
    refine Nat.le_of_not_lt fun q => ?_
    have q' : (n : Int) < ((ns.length : Nat) : Int) := by omega
    first
      | (rw [decide_eq_true q'] at h5; exact absurd h5 (by decide))
      | (simp at h5; omega)
  cases hwl with
  | cons w1 w2 =>
    cases w2
    cases w1 with
    | list ho hall => exact ⟨_, _, ns, rfl, rfl, ho, ints_of_wellAll ns _ hall, hlen⟩

theorem post_true (l : OpenLaw) (args : List WData) : l.row.toRowW.claim.post args (.bool true) args = true :=
  postW_of (r := l.row.toRowW) (X := (true == true))
    (show WShape.has [] (.bool true) .bool = true by first | rfl | decide | simp [WShape.has, WShape.arms, WShape.armsAll])
    (show (WTm.eq .res (.lit (.bool true))).value [] { args := args, res := some (.bool true), after := args } = some (.bool (true == true)) from w_eq_bool (w_res rfl) w_lit) rfl

/-! ### the attachment: holds_open's last premise (the goal 'hc' behind k_head) from a wpAny of the law's body -/
/-- the same from a codeAny of the CALL (for a layer whose function contracts speak of calls) -/
theorem attach_call {l : OpenLaw} {n : Nat} {q : Program} {loose : List Str} {XP : (Str → Option Value) → Heap → Prop} {YP : World → Heap → Prop} {d : DefRec}
    (hn : l.most = some n) (hdf : d.params.defaults = [])
    (call : ∀ (w : World) (s₀ s₁ : Shared) (mg mb : Str → Option Value) (fa : Addr) (o : Obj) (pm cd doc : Value) (a : Addr) (vs : List Value) (ns : List Int),
      Ground q loose [] XP w s₀ mg mb s₁.heap → YP w s₁.heap →
      s₁.heap.get? fa = some o → o.data = .func (docDef d.name d.params d.body d.scope pm cd doc) → s₁.heap.CodeRec cd d.name → mg d.name = some (.ref fa) →
      s₁.heap.get? a = some { cls := .type "list", data := .seq vs.toArray } → IntsAre vs ns → ns.length ≤ n → s₁.gens = #[] →
      codeAny (model l.prog w) callerA (.call (.ref fa) ⟨[.ref a], []⟩) (fun r s' => r = .ok (.ret (.bool true)) ∧ OldK s₁.heap s'.heap ∧ s'.os = s₁.os ∧ AllBare s'.gens) s₁) :
    WalkO q loose XP YP l.row.toRowW d [] (fun f vs => PySem.call f vs) := by
  intro w s₀ s₁ mg mb G Y fa o pm cd doc dV kV ho hd hcd hD hmg hg args vals as hpre hlay hrd hwl hlo
  obtain rfl : dV = .none := Dflts.none hD hdf
  obtain rfl : kV = .none := Dflts.noKw hD
  obtain ⟨a, vs, ns, rfl, rfl, hobj, hints, hlen⟩ := script_of hn hpre hwl
  refine enter_call (codeAny_mono (call w s₀ s₁ mg mb fa o pm cd doc a vs ns G Y ho (fd_plain hd) hcd hmg hobj hints hlen hg) fun r s' hq => ?_)
  obtain ⟨rfl, h2, h3, h4⟩ := hq
  exact ⟨.inl ⟨.bool true, .bool true, [], rfl, fun _ => rfl, .bool true, post_true l _, fun _ => ⟨List.Pairwise.nil, fun _ hm => (nomatch hm)⟩⟩, h2, h3, h4⟩

/-! ### rules over ANY heap (no ledger) from facts about the written part K: the library's own take a ledger (News) for what they write -/
section
variable {prog : Program} {w : World} {A : Around} {E : Value → Shared → Prop} {s : Shared} {K : Frag}

/-! the whole heap as the ledger: makes every rule that writes through a ledger a rule over any heap -/
def noObjs (h : Heap) : Heap := { h with objs := #[] }
def ledger (h : Heap) (L d : Addr) : List (Addr × Obj) := (List.range h.objs.size).filterMap fun a => if a = L ∨ a = d then none else (h.get? a).map fun o => (a, o)
end
end Att

namespace L2
open PySem PySem.Spec PyProof.Rows

theorem vals_ints : ∀ {vs : List Value} {ns : List Int}, IntsAre vs ns → Vals (ns.map V.int) vs
  | _, _, .nil => .nil
  | _, _, .cons n t h => .cons ⟨t, rfl⟩ (vals_ints h)

/-- nothing is tracked but the script, known to the object (or it is an object of the module) -/
def Only (H : Hp) : Prop := ∀ b, H b = none ∨ ∃ o xs, H b = some (.frz o (.lst xs))

/-- THE HEAD: the law's promise, at the heap behind the top. F, the promise of the law's def, may use that base is part of the heap (so K.In base, base.Ns mainGlobals mg stand in Mod) -/
theorem law_call {P : Program} {w : World} {K : PySem.W.Frag} {mg mb : Str → Option Value} {CX : CXT} {k : Nat} {fa a : Addr} {fd : FuncData} {x : Str} {sp : Sp} {s₁ : Shared} {vs : List Value} {ns : List Int}
    (KX : K.In s₁.heap) (hns : s₁.heap.Ns mainGlobals mg) (hb : s₁.heap.Ns builtinsNs mb) (hbb : ∀ x : Str, x ≠ "__name__" → mb x = bootBuiltins x) (hlim : s₁.heap.NoLimit) (hg : s₁.gens = #[])
    (ha : s₁.heap.get? a = some { cls := .type "list", data := .seq vs.toArray }) (hi : IntsAre vs ns) (hl : ns.length ≤ sizeLine) (hr : Room k callerA)
    (F : ∀ base : Heap, K.In base → base.Ns mainGlobals mg → FnOk P w K mg base CX k fa fd [x] sp) (hbind : ∀ (s : Shared) (u : Value), BindsTo s fd ⟨[u], []⟩ [(x, u)])
    (hsp : ∀ H : Hp, Only H → SqL K H a (ns.map V.int) → sp [.ref a] H (fun v _ => v = .bl true) fun _ _ _ => False)
    (hCX : ∀ H e s', CX [] H s₁ (fun _ _ _ => False) e s' → False) :
    codeAny (model P w) callerA (.call (.ref fa) ⟨[.ref a], []⟩) (fun r s' => r = .ok (.ret (.bool true)) ∧ OldK s₁.heap s'.heap ∧ s'.os = s₁.os ∧ AllBare s'.gens) s₁ := by
  have rv := vals_ints hi
  have lenV := hi.length
  -- from an abstract heap in which nothing but the script may be tracked
  have core : ∀ H : Hp, Only H → SqL K H a (ns.map V.int) → HOk P w H s₁.heap → (∀ b, H b ≠ none → b = a) → (H a ≠ none → K.lookup a = none) →
      codeAny (model P w) callerA (.call (.ref fa) ⟨[.ref a], []⟩) (fun r s' => r = .ok (.ret (.bool true)) ∧ OldK s₁.heap s'.heap ∧ s'.os = s₁.os ∧ AllBare s'.gens) s₁ := by
    intro H hO hS hok hA hK
    have base_of : ∀ {b : Addr} {o : Obj}, s₁.heap.get? b = some o → H b = none → (hidT s₁.heap H).get? b = some o := fun e n => hidT_get e n
    have noA : ∀ {b : Addr} {o : Obj} {es : Array DictEntry} {ep : Nat}, s₁.heap.get? b = some o → o.data = .dict es ep → H b = none := fun {b o es ep} e d => by
      cases q : H b with
      | none => rfl
      | some u =>
        have e' : b = a := hA b (by rw [q]; simp)
        subst e'
        rw [ha] at e; cases e
        have d' : Data.seq vs.toArray _ = Data.dict es ep := d
        cases d'
    have nsK : ∀ {b : Addr} {m : Str → Option Value}, s₁.heap.Ns b m → (hidT s₁.heap H).Ns b m := fun {b m} ⟨o, es, ep, e, d, r⟩ => ⟨o, es, ep, base_of e (noA e d), d, r⟩
    have hKb : K.In (hidT s₁.heap H) := fun b o e => base_of (KX b o e) (by
      cases q : H b with
      | none => rfl
      | some u =>
        have e' : b = a := hA b (by rw [q]; simp)
        subst e'
        rw [hK (by rw [q]; simp)] at e; cases e)
    have hM : Mod K mg (hidT s₁.heap H) := ⟨hKb, nsK hns, ⟨mb, nsK hb, hbb⟩, let ⟨mc, h1, h2⟩ := hlim; ⟨mc, nsK h1, h2⟩⟩
    have e0 : Env0 P w K mg (hidT s₁.heap H) callerA [] s₁ H := ⟨rfl, hM, fun b o e => of_hidT e, Nat.le_of_eq (hidT_size _ _), trivial, fun b hb => absurd (show b ∈ ([] : List Addr) from hb) (by simp), hok, .of_eq hg⟩
    refine codeAny_mono ((F _ hKb (nsK hns)).run callerA [] s₁ H ⟨[.ref a], []⟩ [.ref a] [.ref a] _ _ hr e0 (hbind s₁ (.ref a)) (.cons rfl .nil) (hsp H hO hS)) fun r s' h => ?_
    cases r with
    | error e => exact (hCX H e s' h).elim
    | ok fl =>
      cases fl with
      | next => exact False.elim h
      | brk => exact False.elim h
      | cont => exact False.elim h
      | ret u =>
        obtain ⟨v, H', os, bare, un, hok', r', q⟩ := h
        have q' : v = .bl true := q
        subst q'
        obtain rfl : u = Value.bool true := r'
        refine ⟨rfl, OldK.of_keep fun b o e => ?_, os, bare⟩
        cases q : H b with
        | none => exact un.keep b o e q (by intro z; exact absurd (show b ∈ ([] : List Addr) from z) (by simp)) (by simp)
        | some u =>
          rcases hO b with z | ⟨ob, xs, z⟩
          · rw [q] at z; cases z
          · have z2 := un.frzs b ob _ z
            obtain ⟨e1, _⟩ := hok b _ z
            obtain ⟨e2, _⟩ := hok' b _ z2
            rw [e] at e1; cases e1
            exact e2
  cases hk : K.lookup a with
  | some o =>
    -- the script is one of the module's own objects
    have e := KX a o hk
    rw [ha] at e
    cases e
    refine core (fun _ => none) (fun _ => .inl rfl) (.inr ⟨_, vs.toArray, _, hk, rfl, rfl, rfl, by rw [List.size_toArray, lenV]; exact hl, by simpa using rv⟩) (fun b u z => by have z' : (none : Option HO) = some u := z; cases z') (fun b z => absurd rfl z) fun z => absurd rfl z
  | none =>
    refine core (fun b => if b = a then some (.frz { cls := .type "list", data := .seq vs.toArray } (.lst (ns.map V.int))) else none) (fun b => ?_) (.inl (.inr ⟨{ cls := .type "list", data := .seq vs.toArray }, if_pos rfl⟩)) (fun b u z => ?_) (fun b z => ?_) fun _ => hk
    · by_cases hb : b = a
      · exact .inr ⟨_, _, if_pos hb⟩
      · exact .inl (if_neg hb)
    · by_cases hb : b = a
      · have z' := (if_pos hb).symm.trans z
        cases z'
        subst hb
        exact ⟨ha, by rw [List.length_map]; exact hl, vs, _, rv, ha⟩
      · have z' := (if_neg hb).symm.trans z
        cases z'
    · by_cases hb : b = a
      · exact hb
      · exact absurd (if_neg hb) z
end L2

namespace L2
open PySem PySem.Spec PyProof.Rows

abbrev KOf {K : PySem.W.Frag} {h : Heap} (_ : K.In h) : PySem.W.Frag := K

/-- the goal that k_head leaves (case hc), from the law's promise. F gives the function object fd (K's own) once, then the promise over every base -/
theorem walk_of {l : PySem.W.OpenLaw} {n k : Nat} {q : Program} {loose : List Str} {XP : (Str → Option Value) → Heap → Prop} {YP : World → Heap → Prop} {d : DefRec} {K : Params → PySem.W.Frag} {CX : World → CXT} {sp : World → Sp} {x : Str}
    (hn : l.most = some n) (hn2 : n ≤ sizeLine) (hdf : d.params.defaults = []) (hr : Room k callerA)
    (hY : ∀ (w : World) (h : Heap), YP w h → (K w.params).In h)
    (F : ∀ (w : World) (mg : Str → Option Value) (fa : Addr) (h : Heap), (K w.params).In h → h.Ns mainGlobals mg → mg d.name = some (.ref fa) →
      ∃ fd : FuncData, (∀ (s : Shared) (u : Value), BindsTo s fd ⟨[u], []⟩ [(x, u)]) ∧
        ∀ base : Heap, (K w.params).In base → base.Ns mainGlobals mg → FnOk l.prog w (K w.params) mg base (CX w) k fa fd [x] (sp w))
    (hsp : ∀ (w : World) (H : Hp) (a : Addr) (ns : List Int), ns.length ≤ n → Only H → SqL (K w.params) H a (ns.map V.int) → sp w [.ref a] H (fun v _ => v = .bl true) fun _ _ _ => False)
    (hCX : ∀ (w : World) (H : Hp) (s : Shared) (e : Value) (s' : Shared), CX w [] H s (fun _ _ _ => False) e s' → False) :
    PySem.W.WalkO q loose XP YP l.row.toRowW d [] (fun f vs => PySem.call f vs) := by
  refine Att.attach_call hn hdf fun w s₀ s₁ mg mb fa o pm cd doc a vs ns G Y ho hd hcd hmg hobj hints hlen hg => ?_
  have KX := hY w _ Y
  obtain ⟨fd, hb, hF⟩ := F w mg fa _ KX G.T.g hmg
  exact law_call KX G.T.g G.T.b G.T.builtins G.T.nolimit hg hobj hints (Nat.le_trans hlen hn2) hr hF hb (fun H hO hS => hsp w H a ns hlen hO hS) fun H e s' => hCX w H s₁ e s'
end L2

/- THE LAST THEOREM (shape; LID, My.* are yours):
   My.Adr: a structure of the addresses that your layer names (classes, functions); My.Txt K t: a structure (Prop) of the equations over K;
   My.txt_mk : {K} {implicit addresses ..} (e1 : nsIn K mainGlobals "law" = some (some (.ref f))) (e2 : K.lookup f = some ⟨oc, od, .func (fnOf "law" "law" params body scope dV kV doc pm an cdv ct), sl⟩) (e3 : codeIn K cdv "law" = true) .. : ∃ t, My.Txt K t

set_option maxRecDepth 100000 in
set_option maxHeartbeats 0 in
theorem PySem.Challenge.cw_LID_holds : PySem.Challenge.rw_LID.Holds := by
  w_on; o_law; k_head; (case hw => w_witness2)
  k_fill
  refine L2.walk_of (l := PySem.Challenge.rw_LID) (n := 63) (k := 40) (x := "script") (CX := fun w => ..) (sp := fun _ => My.sp_law) rfl (by decide) rfl ⟨rfl, by decide, by decide⟩ (fun w h Y => PySem.W.kIn_of Y) ?F ?S ?C
  case F =>
    intro w mg fa h KX G hmg
    have T : ∃ t, My.Txt (L2.KOf KX) t := by
      dsimp only [L2.KOf]                          -- K must stand as «<heap const> w.params» for k_is
      refine' My.txt_mk ?e1 ?e2 ?e3 ..
      (case e1 => PySem.W.k_is)                    -- in the order: a name -> its address -> its object -> its parts
      (case e2 => PySem.W.k_is)
      ..
    obtain ⟨t, T⟩ := T
    have e0 := hmg.symm.trans (PySem.W.mg_of KX G T.law)
    cases e0                                       -- fa is the law's own address
    exact ⟨_, fun s u => .of_eq rfl, fun base kb nb => My.law_fn T kb nb⟩     -- if «.of_eq rfl» comes too early: refine' ⟨_, ?b, fun base kb nb => My.law_fn T kb nb⟩; exact fun s u => .of_eq rfl
  case S => exact fun w H a ns hl hO hS => ..
  case C => exact ..
(the tactic k_is has no namespace: write k_is) -/

/-! SHORT WORDS over the layer: a def of the text, its body, what a loop and a test want. -/
namespace L2
open PySem PySem.Spec PyProof.Rows

/-! ### the text by places -/
/-- the j-th statement of a class's body -/
def inClass (s : Stmt) (j : Nat) : Stmt := match s with
  | .ClassDef _ _ _ body _ _ _ _ _ _ _ => body.getD j (.Pass ⟨0, 0, 0, 0⟩)
  | _ => .Pass ⟨0, 0, 0, 0⟩
def defArgs (s : Stmt) : Arguments := match s with
  | .FunctionDef _ a _ _ _ _ _ _ _ _ => a
  | _ => { posonlyargs := [], args := [], vararg := none, kwonlyargs := [], kw_defaults := [], kwarg := none, defaults := [] }
def defBody (s : Stmt) : List Stmt := match s with
  | .FunctionDef _ _ b _ _ _ _ _ _ _ => b
  | _ => []
def defScope (s : Stmt) : Scope := match s with
  | .FunctionDef _ _ _ _ _ _ sc _ _ _ => sc
  | _ => { kind := .function, names := [], isGenerator := false, isCoroutine := false }

/-! ### no exception leaves a def -/
abbrev CX0 : CXT := fun _ _ _ _ _ _ => False
abbrev E0 : XK := fun _ _ _ => False
theorem pass0 {X : Cx} : Passes CX0 X E0 := fun _ _ _ _ _ _ _ h => h.elim

/-! ### a def (or method) of the text as it stands behind the top -/
structure Fun (K : PySem.W.Frag) (x qual : Str) (st : Stmt) (f : Addr) (fd : FuncData) : Prop where
  ex : ∃ (oc : Value) (od : Option Addr) (kV doc pm : Value) (an : Option Addr) (cdv ct : Value) (osl : Array (Option Value)),
    fd = PySem.W.fnOf x qual (defArgs st) (defBody st) (defScope st) .none kV doc pm an cdv ct ∧ K.lookup f = some ⟨oc, od, .func fd, osl⟩ ∧ PySem.W.codeIn K cdv qual = true
  kp : PySem.W.keepIn K (.ref f) = true
section
variable {P : Program} {w : World} {K : PySem.W.Frag} {mg : Str → Option Value} {base : Heap}
/-- THE RULE for a def: its body as a term of rules, and the reading of that term -/
theorem Fun.ok {x qual : Str} {st : Stmt} {f : Addr} {fd : FuncData} {N ps : List Str} {k : Nat} {sp : Sp} (F : Fun K x qual st f fd) (S : FnScope N ps (defScope st)) (len : ∀ vs H Q E, sp vs H Q E → vs.length = ps.length)
    (hbody : ∀ (cdv : Value) (A : Around) (outer : List Env) (s : Shared) (H : Hp) (vs : List V) (Q : VK) (E : XK), Room k (A.deeper (envOfC qual (defScope st) s.heap.objs.size f cdv)) → sp vs H Q E →
      ∃ t, PSs (cxOf CX0 P w K mg base N qual (defScope st) f cdv A outer s H E).nox (defBody st) t ∧ t { nx := fun _ H' => Q .non H', rt := Q } (start N vs) H) : FnOk P w K mg base CX0 (k + 1) f fd ps sp := by
  obtain ⟨oc, od, kV, doc, pm, an, cdv, ct, osl, rfl, lk, hcd⟩ := F.ex
  refine fn_of lk hcd S len fun A outer s H vs Q E hr hsp => ?_
  obtain ⟨t, h, q⟩ := hbody cdv A outer s H vs Q E hr hsp
  exact ⟨t, h.nox, q⟩
/-- how its arguments bind (no defaults): h is «fun _ _ _ _ _ _ us hl => match us, hl with | [_, _], _ => rfl», one _ a parameter -/
theorem Fun.binds {x qual : Str} {st : Stmt} {f : Addr} {fd : FuncData} {ps : List Str} (F : Fun K x qual st f fd)
    (h : ∀ (kV doc pm : Value) (an : Option Addr) (cdv ct : Value) (us : List Value), us.length = ps.length → bindArgs (PySem.W.fnOf x qual (defArgs st) (defBody st) (defScope st) .none kV doc pm an cdv ct) ⟨us, []⟩ = pure (ps.zip us)) : Binds K fd ps [] := by
  obtain ⟨oc, od, kV, doc, pm, an, cdv, ct, osl, rfl, lk, hcd⟩ := F.ex
  exact .all (h kV doc pm an cdv ct)
theorem fun_mk {x qual : Str} {st : Stmt} {f : Addr} {oc : Value} {od an : Option Addr} {osl : Array (Option Value)} {kV doc pm cdv ct : Value} (l : K.lookup f = some ⟨oc, od, .func (PySem.W.fnOf x qual (defArgs st) (defBody st) (defScope st) .none kV doc pm an cdv ct), osl⟩)
    (c : PySem.W.codeIn K cdv qual = true) (k : PySem.W.keepIn K (.ref f) = true) : Fun K x qual st f (PySem.W.fnOf x qual (defArgs st) (defBody st) (defScope st) .none kV doc pm an cdv ct) := ⟨⟨oc, od, kV, doc, pm, an, cdv, ct, osl, rfl, l, c⟩, k⟩
end
theorem small1000 {n : Nat} (h : n ≤ 1000) : n < sizeLine := Nat.lt_of_le_of_lt h (by decide)

/-! ### expressions in short: the name that stands in the i-th slot -/
section
variable {X : Cx}
theorem pv (i : Nat) {x : Str} {pos : Pos} (hN : X.N[i]? = some x := by rfl) (hv : Vis X.env.scope x := by first | exact Or.inl rfl | exact Or.inr (Or.inl rfl) | exact Or.inr (Or.inr rfl)) (hd : (x == ("__debug__" : Str)) = false := by decide)
    (hcd : (x == ("__classdict__" : Str)) = false := by decide) : PE X (.Name x pos) (tVar i) := pe_var hN hv hd hcd
end

/-! ### tests -/
theorem iteF {A B : Prop} (h : B) : if false = true then A else B := by
  rw [if_neg Bool.false_ne_true]
  exact h
theorem iteT {A B : Prop} (h : A) : if true = true then A else B := by
  rw [if_pos rfl]
  exact h
/-! ### heaps -/
/-- all that was tracked is as it was -/
def Same (H H' : Hp) : Prop := ∀ b o, H b = some o → H' b = some o
theorem Same.refl (H : Hp) : Same H H := fun _ _ h => h
theorem Same.trans {H H1 H2 : Hp} (a : Same H H1) (b : Same H1 H2) : Same H H2 := fun c o h => b c o (a c o h)
theorem Same.seq {K : PySem.W.Frag} {H H' : Hp} {a : Addr} {xs : List V} (e : Same H H') (h : SqL K H a xs) : SqL K H' a xs := by
  rcases h with (h | ⟨o, h⟩) | h
  · exact .inl (.inl (e _ _ h))
  · exact .inl (.inr ⟨o, e _ _ h⟩)
  · exact .inr h

end L2

set_option Elab.async false
set_option linter.all false
set_option maxRecDepth 100000
namespace L2
open PySem PySem.Spec PyProof.Rows

/-! ### lists of pairs as tables -/
section
variable {κ : Type} [DecidableEq κ]
def valV (kvs : List (κ × V)) (k : κ) : Option V := (kvs.find? fun kv => decide (kv.1 = k)).map (·.2)
/-- in its place, or at the end -/
def putK (kvs : List (κ × V)) (k : κ) (v : V) : List (κ × V) :=
  if (kvs.any fun kv => decide (kv.1 = k)) = true then kvs.map (fun kv => if kv.1 = k then (kv.1, v) else kv) else kvs ++ [(k, v)]
def dropK (kvs : List (κ × V)) (k : κ) : List (κ × V) := kvs.filter fun kv => decide (kv.1 ≠ k)

end


/-! ### a tracked dict, its keys ints and texts or tuples of these -/
/-- raw entries of a dict with tuple keys -/
abbrev KT (H : Hp) : List (List Key × V) → List (List Key × Addr × Value) → Prop := Paired fun p q => p.1 = q.1 ∧ H q.2.1 = some (.tup (p.1.map kV)) ∧ RelV p.2 q.2.2
section
variable {P : Program} {w : World} {H : Hp} {h : Heap} {a : Addr}
end

/-- what the dict at a holds at the key y -/
def DGet (H : Hp) (a : Addr) (y : V) (r : Option V) : Prop :=
  (∃ kvs k, Rd H a (.dK kvs) ∧ y = kV k ∧ r = valV kvs k) ∨ ∃ kvs k b, Rd H a (.dT kvs) ∧ y = .ref b ∧ H b = some (.tup (k.map kV)) ∧ r = valV kvs k
/-- the heap behind a[y] = v -/
def DPut (H : Hp) (a : Addr) (y v : V) (H' : Hp) : Prop :=
  (∃ kvs k, H a = some (.dK kvs) ∧ y = kV k ∧ kvs.length < sizeLine ∧ H' = upd H a (.dK (putK kvs k v))) ∨
  ∃ kvs k b, H a = some (.dT kvs) ∧ y = .ref b ∧ H b = some (.tup (k.map kV)) ∧ kvs.length < sizeLine ∧ H' = upd H a (.dT (putK kvs k v))
section
variable {X : Cx} {pins : List (Addr × Obj)} {σ : St} {H : Hp} {s : Shared} {a : Addr} {y v : V} {u r : Value} {o : Option V} {A : Around} {E : Value → Shared → Prop}

end

section
variable {X : Cx} {pins : List (Addr × Obj)} {σ : St} {H : Hp} {s : Shared} {a : Addr} {kvs : List (Key × V)} {k : Key} {u : Value} {A : Around} {E : Value → Shared → Prop}
end


/-! ### readings and rules -/
/-- the element of a subscription, not a slice -/
def NoSl (i : Expr) : Prop := ∀ ov iv, subscripted i false ov iv = operate [ov, iv] (getItem ov iv)
/-- d[y] -/
def tDGet (td ty : TE) : TE := fun σ H Q => td σ H fun x H1 => ty σ H1 fun y H2 => ∃ a v, x = .ref a ∧ DGet H2 a y (some v) ∧ Q v H2
/-- y in d, y not in d -/
def tDIn (ty td : TE) : TE := fun σ H Q => ty σ H fun y H1 => td σ H1 fun x H2 => ∃ a o, x = .ref a ∧ DGet H2 a y o ∧ Q (.bl o.isSome) H2
def tDNotIn (ty td : TE) : TE := fun σ H Q => ty σ H fun y H1 => td σ H1 fun x H2 => ∃ a o, x = .ref a ∧ DGet H2 a y o ∧ Q (.bl (!o.isSome)) H2
/-- d[y] = v -/
def sDPut (td ty tv : TE) : TS := fun D σ H => tv σ H fun v H1 => td σ H1 fun x H2 => ty σ H2 fun y H3 => ∃ a H4, x = .ref a ∧ DPut H3 a y v H4 ∧ D.nx σ H4
/-- d[y] op= v -/
def sDAug (td ty tv : TE) (rd : V → V → Hp → VK → Prop) : TS := fun D σ H => td σ H fun x H1 => ty σ H1 fun y H2 => ∃ a v, x = .ref a ∧ DGet H2 a y (some v) ∧
  tv σ H2 fun y2 H3 => rd v y2 H3 fun z H4 => ∃ H5, DPut H4 a y z H5 ∧ D.nx σ H5
/-- del d[y] -/
def sDDel (td ty : TE) : TS := fun D σ H => td σ H fun x H1 => ty σ H1 fun y H2 => ∃ a kvs k, x = .ref a ∧ H2 a = some (.dK kvs) ∧ y = kV k ∧ (valV kvs k).isSome = true ∧ D.nx σ (upd H2 a (.dK (dropK kvs k)))

section
variable {X : Cx} {o i e value : Expr} {pos pos' tpos : Pos} {td ty tv : TE}
end


/-! ### displays -/
/-- {}, to be a dict of the kind that is wanted -/
def tDNewK : TE := fun _ H Q => ∀ p, H p = none → Q (.ref p) (upd H p (.dK []))
def tDNewT : TE := fun _ H Q => ∀ p, H p = none → Q (.ref p) (upd H p (.dT []))
section
variable {X : Cx} {pos : Pos}
end

/-- the pairs of a display, from the left -/
def tPairs : List (TE × TE) → St → Hp → (List (V × V) → Hp → Prop) → Prop
  | [], _, H, Q => Q [] H
  | (tk, tv) :: r, σ, H, Q => tk σ H fun x H1 => tv σ H1 fun y H2 => tPairs r σ H2 fun ps H3 => Q ((x, y) :: ps) H3
abbrev VV : List (V × V) → List (Value × Value) → Prop := Paired fun p q => RelV p.1 q.1 ∧ RelV p.2 q.2
def PPs (X : Cx) (pos : Pos) (keys : List (Option Expr)) (values : List Expr) (trs : List (TE × TE)) : Prop :=
  ∀ (pins : List (Addr × Obj)) (s : Shared) (σ : St) (H : Hp) (Q : List (V × V) → Hp → Prop), Inv X pins σ H s → tPairs trs σ H Q →
    wpAny (model X.prog X.w) X.A (evalPairs (pairTrees keys values X.env pos)) (fun vs s' => ∃ ps H', Inv X pins σ H' s' ∧ VV ps vs ∧ Q ps H') X.xe s
def mergeK (kvs more : List (Key × V)) : List (Key × V) := more.foldl (fun acc kv => putK acc kv.1 kv.2) kvs
/-- {k: v, ..} with keys ints and texts; the new dict stands empty while the pairs are made -/
def tDisp (trs : List (TE × TE)) : TE := fun σ H Q => ∀ p, H p = none → tPairs trs σ (upd H p (.dK [])) fun ps H2 => H2 p = some (.dK []) ∧ ∃ kvs : List (Key × V), ps = kvs.map (fun kv => (kV kv.1, kv.2)) ∧ kvs.length ≤ 15 ∧ Q (.ref p) (upd H2 p (.dK (mergeK [] kvs)))
/-! ### methods -/
/-- a method call o.m(e) of a built-in, with one argument: what must be seen of the text -/
structure M1 (X : Cx) (o : Expr) (m : Str) (apos : Pos) (e : Expr) (cpos : Pos) : Prop where
  base : attributeBase o m X.env (eval o X.env) = eval o X.env
  few : ((backTo cpos (starEach [e] X.env)).all (fun x => !x.1) && (backToKw cpos (keywordEach [] X.env)).all (fun x => x.1.isSome)
    && decide (([e] : List Expr).length + ([] : List Keyword).length + (if ([] : List Keyword).isEmpty then 0 else 1) < 30)) = true
  line : (apos.endLine == cpos.line) = true
  trees : backTo cpos (starEach [e] X.env) = [(false, eval e X.env)]
structure M2 (X : Cx) (o : Expr) (m : Str) (apos : Pos) (e f : Expr) (cpos : Pos) : Prop where
  base : attributeBase o m X.env (eval o X.env) = eval o X.env
  few : ((backTo cpos (starEach [e, f] X.env)).all (fun x => !x.1) && (backToKw cpos (keywordEach [] X.env)).all (fun x => x.1.isSome)
    && decide (([e, f] : List Expr).length + ([] : List Keyword).length + (if ([] : List Keyword).isEmpty then 0 else 1) < 30)) = true
  line : (apos.endLine == cpos.line) = true
  trees : backTo cpos (starEach [e, f] X.env) = [(false, eval e X.env), (false, eval f X.env)]

/-- a is a dict, whatever its keys -/
def IsD (H : Hp) (a : Addr) : Prop := (∃ kvs, Rd H a (.dK kvs)) ∨ ∃ kvs, Rd H a (.dT kvs)
section
variable {X : Cx} {pins : List (Addr × Obj)} {σ : St} {H : Hp} {s : Shared} {a : Addr} {y d : V} {u r : Value} {o : Option V} {A : Around} {E : Value → Shared → Prop}
end

def tDGet1 (td ty : TE) : TE := fun σ H Q => td σ H fun x H1 => ∃ a, x = .ref a ∧ IsD H1 a ∧ ty σ H1 fun y H2 => ∃ o, DGet H2 a y o ∧ Q (o.getD .non) H2
def tDGet2 (td ty tx : TE) : TE := fun σ H Q => td σ H fun x H1 => ∃ a, x = .ref a ∧ IsD H1 a ∧ ty σ H1 fun y H2 => tx σ H2 fun z H3 => ∃ o, DGet H3 a y o ∧ Q (o.getD z) H3
/-- d.pop(k): there; d.pop(k, x): there or not -/
def tDPop1 (td ty : TE) : TE := fun σ H Q => td σ H fun x H1 => ∃ a, x = .ref a ∧ IsD H1 a ∧ ty σ H1 fun y H2 => ∃ kvs k v, H2 a = some (.dK kvs) ∧ y = kV k ∧ valV kvs k = some v ∧ Q v (upd H2 a (.dK (dropK kvs k)))
def tDPop2 (td ty tx : TE) : TE := fun σ H Q => td σ H fun x H1 => ∃ a, x = .ref a ∧ IsD H1 a ∧ ty σ H1 fun y H2 => tx σ H2 fun z H3 => ∃ kvs k, H3 a = some (.dK kvs) ∧ y = kV k ∧
  (∀ v, valV kvs k = some v → Q v (upd H3 a (.dK (dropK kvs k)))) ∧ (valV kvs k = none → Q z H3)
section
variable {X : Cx} {o e f : Expr} {apos cpos : Pos} {td ty tx : TE}
end

/-! ### dict(d): a copy -/
section
variable {X : Cx} {pins : List (Addr × Obj)} {σ : St} {H : Hp} {s : Shared} {a : Addr} {kvs : List (Key × V)} {A : Around} {E : Value → Shared → Prop}
end


section
variable {X : Cx} {pins : List (Addr × Obj)} {σ : St} {H : Hp} {s : Shared} {a : Addr} {y : V} {u : Value} {A : Around} {E : Value → Shared → Prop}
end
end L2
namespace L2
open PySem PySem.Spec PyProof.Rows
section
variable {X : Cx}
end
/-! ### a dict's pairs: keys that differ -/
section
variable {κ : Type} [DecidableEq κ]
end
end L2

set_option Elab.async false
set_option linter.all false
set_option maxRecDepth 100000
namespace L2
open PySem PySem.Spec PyProof.Rows
/-! Own words over the layer, part A: calls by name, constants of the module, wide division, == of data. -/
/-- a def of the text that is called by its name -/
structure Cal (P : Program) (w : World) (K : PySem.W.Frag) (mg : Str → Option Value) (base : Heap) (CX : CXT) (k : Nat) (x : Str) (ps : List Str) (sp : Sp) : Prop where
  ex : ∃ f fd, FnOk P w K mg base CX k f fd ps sp ∧ Binds K fd ps [] ∧ PySem.W.keepIn K (.ref f) = true ∧ mg x = some (.ref f)
/-- a constant of the module -/
def GC (mg : Str → Option Value) (x : Str) (v : V) : Prop := ∃ u, mg x = some u ∧ RelV v u
section
variable {X : Cx} {CX : CXT} {j k : Nat} {ps : List Str} {sp : Sp} {E : XK} {x : Str} {v : V} {p pos : Pos} {e : Expr} {es : List Expr} {t : TA}
theorem pe_fn (c : Cal X.prog X.w X.K X.mg X.base CX k x ps sp) (hr : Room j X.A) (hx : Passes CX X E) (ha : PA X (e :: es) t) (hk : k ≤ j := by decide) (hg : Gl X x := by rfl) (hdb : (x == ("__debug__" : Str)) = false := by decide)
    (he : starEach (e :: es) X.env = (false, eval e X.env) :: starEach es X.env := by rfl) (hpl : (backTo pos (starEach es X.env)).any (·.1) = false := by rfl) :
    PE X (.Call (.Name x p) (e :: es) [] pos) (tCall sp [] E t) := by
  obtain ⟨f, fd, F, b, kp, m⟩ := c.ex
  exact pe_call F (hr.mono hk) hg m kp b .nil hx ha hdb he hpl
theorem pe_gc (h : GC X.mg x v) (hg : Gl X x := by rfl) (hd : (x == ("__debug__" : Str)) = false := by decide) : PE X (.Name x pos) (tC v) := by
  obtain ⟨u, m, r⟩ := h
  exact pe_glob hg m r hd
def CDivW (i j : Int) : Prop := 0 < j ∧ j < 2 ^ 200
theorem op_fdivW : OpR X (binaryOp .FloorDiv) (rI CDivW fun i j => .int (i / j)) := opI fun i j _ _ _ _ _ hc q => by
  have h1 : (0 : Int) < j := hc.1
  have h2 : j < 2 ^ 200 := hc.2
  have h3 : j.natAbs < 2 ^ 200 := by omega
  have h4 : j.natAbs.log2 < 200 := (Nat.log2_lt (by omega)).mpr h3
  exact floordiv_int (by omega) (by rw [Int.fdiv_eq_ediv_of_nonneg i (by omega)]; exact q) (.inl (PyProof.noPylong_of_log2 (by omega)))
end

/-! ### data: deep values -/
mutual
inductive DV (K : PySem.W.Frag) (H : Hp) : V → PyData → Prop
  | non : DV K H .non .none
  | bl (b : Bool) : DV K H (.bl b) (.bool b)
  | int (i : Int) : DV K H (.int i) (.int i)
  | str (x : Str) : DV K H (.str x) (.str x)
  | tup {a xs ds} : SqT K H a xs → DVs K H xs ds → DV K H (.ref a) (.tuple ds)
  | lst {a xs ds} : SqL K H a xs → DVs K H xs ds → DV K H (.ref a) (.list ds)
inductive DVs (K : PySem.W.Frag) (H : Hp) : List V → List PyData → Prop
  | nil : DVs K H [] []
  | cons {x xs d ds} : DV K H x d → DVs K H xs ds → DVs K H (x :: xs) (d :: ds)
end
section
variable {X : Cx} {pins : List (Addr × Obj)} {σ : St} {H : Hp} {s : Shared}
mutual
theorem DV.reads (I : Inv X pins σ H s) : ∀ {x : V} {d : PyData} {u : Value}, DV X.K H x d → RelV x u → ∃ as, Reads s.heap u d as
  | _, _, _, .non, r => by cases r; exact ⟨_, Reads.none⟩
  | _, _, _, .bl b, r => by cases r; exact ⟨_, Reads.bool b⟩
  | _, _, _, .int i, r => by obtain ⟨t, rfl⟩ := r; exact ⟨_, Reads.int i t⟩
  | _, _, _, .str x, r => by obtain ⟨t, rfl⟩ := r; exact ⟨_, Reads.str x t⟩
  | _, _, _, .tup h hs, r => by
    cases r
    obtain ⟨its, rs, ⟨o, ho, hc, n, hd⟩, _⟩ := I.tuple h
    obtain ⟨as, q⟩ := DVs.reads I hs rs
    exact ⟨_, reads_tuple_at ho hc hd (by simpa using q)⟩
  | _, _, _, .lst h hs, r => by
    cases r
    obtain ⟨its, rs, ⟨o, n, ho, hc, _, hd⟩, _⟩ := I.list h
    obtain ⟨as, q⟩ := DVs.reads I hs rs
    exact ⟨_, reads_list_at ho hc hd (by simpa using q)⟩
theorem DVs.reads (I : Inv X pins σ H s) : ∀ {xs : List V} {ds : List PyData} {us : List Value}, DVs X.K H xs ds → Vals xs us → ∃ as, ReadsAll s.heap us ds as
  | _, _, _, .nil, .nil => ⟨_, ReadsAll.nil⟩
  | _, _, _, .cons h hs, .cons r rs => by
    obtain ⟨as, q⟩ := DV.reads I h r
    obtain ⟨bs, p⟩ := DVs.reads I hs rs
    exact ⟨_, ReadsAll.cons q p⟩
end
def rEqD (K : PySem.W.Frag) : R2 := fun x y H Q => ∃ d e, DV K H x d ∧ DV K H y e ∧ SeqAt.shaped d = true ∧ SeqAt.shaped e = true ∧ Q (.bl (PyData.eqv d e)) H
def rNeD (K : PySem.W.Frag) : R2 := fun x y H Q => ∃ d e, DV K H x d ∧ DV K H y e ∧ SeqAt.shaped d = true ∧ SeqAt.shaped e = true ∧ Q (.bl (!PyData.eqv d e)) H
theorem op_eqD (hu : X.A.units + 64 < cLine) : OpR X (compareOp .Eq) (rEqD X.K) := by
  intro pins s σ H x y v u Q I rx ry h
  obtain ⟨d, e, hd, he, sd, se, q⟩ := h
  obtain ⟨as, ra⟩ := hd.reads I rx
  obtain ⟨bs, rb⟩ := he.reads I ry
  exact eq_dataH ra rb sd se hu ⟨.bl _, H, I, rfl, q⟩
theorem op_neD (hu : X.A.units + 64 < cLine) : OpR X (compareOp .NotEq) (rNeD X.K) := by
  intro pins s σ H x y v u Q I rx ry h
  obtain ⟨d, e, hd, he, sd, se, q⟩ := h
  obtain ⟨as, ra⟩ := hd.reads I rx
  obtain ⟨bs, rb⟩ := he.reads I ry
  exact ne_dataH ra rb sd se hu ⟨.bl _, H, I, rfl, q⟩
end
theorem Same.tup {K : PySem.W.Frag} {H H' : Hp} {a : Addr} {xs : List V} (e : Same H H') (h : SqT K H a xs) : SqT K H' a xs := by
  rcases h with (h | ⟨o, h⟩) | h
  · exact .inl (.inl (e _ _ h))
  · exact .inl (.inr ⟨o, e _ _ h⟩)
  · exact .inr h
theorem same_new {H : Hp} {p : Addr} (h : H p = none) (o : HO) : Same H (upd H p o) := fun b u q => by rw [upd_ne (ne_of_none q h)]; exact q
end L2

set_option Elab.async false
set_option linter.all false
set_option maxRecDepth 100000
namespace L2
open PySem PySem.Spec PyProof.Rows
theorem boot_bool : bootBuiltins "bool" = some (.type "bool") := by decide +kernel
theorem boot_int : bootBuiltins "int" = some (.type "int") := by decide +kernel
theorem boot_str : bootBuiltins "str" = some (.type "str") := by decide +kernel
theorem boot_list : bootBuiltins "list" = some (.type "list") := by decide +kernel
theorem boot_tuple : bootBuiltins "tuple" = some (.type "tuple") := by decide +kernel
section
variable {X : Cx}
/-- isinstance of a class that is known -/
def rIsi (K : PySem.W.Frag) (c : V) (cv : Value) : List V → Hp → VK → Prop := fun xs H Q => ∃ x t b, xs = [x, c] ∧ TyOf K H x t ∧ PySem.W.kitOne K t cv = some b ∧ Q (.bl b) H
theorem call_isi {c : V} {cv : Value} (hc : ∀ u, RelV c u → u = cv) : CallR X (.builtin "isinstance") (rIsi X.K c cv) := by
  intro pins s σ H xs us Q I r h
  obtain ⟨x, t, b, rfl, ty, e, q⟩ := h
  obtain ⟨u, w, rfl, ru, rw'⟩ := Vals.two r
  cases hc w rw'
  exact isinst_ok I ru ty e fun tk => ⟨.bl b, H, I.tok tk, rfl, q⟩
theorem pe_isB {x : Str} {T : String} {p p2 pos : Pos} {e : Expr} {te : TE} (hg : Gl X "isinstance") (hm : X.mg "isinstance" = none) (he : PE X e te) (hmT : X.mg x = none) (hT : bootBuiltins x = some (.type T)) (hgT : Gl X x := by rfl) (hn : x ≠ "__name__" := by decide) (hd : (x == ("__debug__" : Str)) = false := by decide)
    (h1 : starEach [e, .Name x p2] X.env = (false, eval e X.env) :: starEach [.Name x p2] X.env := by rfl) (h2 : (backTo pos (starEach [.Name x p2] X.env)).any (·.1) = false := by rfl) :
    PE X (.Call (.Name "isinstance" p) [e, .Name x p2] [] pos) (tCB (rIsi X.K (.ty T) (.type T)) (tCons te (tCons (tC (.ty T)) tNil))) :=
  pe_callB (call_isi fun u hu => hu) hg hm boot_isinstance (pa_cons he (pa_cons (pe_bltn hgT hmT hT rfl hn hd) pa_nil) h1) (by decide) (by decide) h1 h2
end
end L2

/-! Own mathematics: bits of numbers. -/
namespace Tw
theorem pop_dec {n : Nat} (h : ¬ n = 0) : n / 2 < n := Nat.div_lt_self (Nat.pos_of_ne_zero h) (by decide)
def pop (n : Nat) : Nat := if h : n = 0 then 0 else n % 2 + pop (n / 2)
termination_by n
decreasing_by exact pop_dec h
theorem pop_zero : pop 0 = 0 := by rw [pop]; rfl
theorem pop_step (n : Nat) : pop n = n % 2 + pop (n / 2) := by
  by_cases h : n = 0
  · subst h; rw [pop_zero]
  · rw [pop, dif_neg h]
theorem and_mod2 (a b : Nat) : (a &&& b) % 2 = (a % 2) * (b % 2) := by
  have h := Nat.and_two_pow_sub_one_eq_mod
  have ha : a % 2 = a &&& 1 := (Nat.and_one_is_mod a).symm
  rw [← Nat.and_one_is_mod, ← Nat.and_one_is_mod, ← Nat.and_one_is_mod]
  have e : (a &&& b) &&& 1 = (a &&& 1) &&& (b &&& 1) := by
    apply Nat.eq_of_testBit_eq
    intro i
    simp only [Nat.testBit_and]
    cases a.testBit i <;> cases b.testBit i <;> cases (1 : Nat).testBit i <;> rfl
  rw [e, Nat.and_one_is_mod a, Nat.and_one_is_mod b]
  rcases Nat.mod_two_eq_zero_or_one a with h | h <;> rcases Nat.mod_two_eq_zero_or_one b with h' | h' <;> rw [h, h'] <;> rfl
theorem and_div2 (a b : Nat) : (a &&& b) / 2 = (a / 2) &&& (b / 2) := by
  apply Nat.eq_of_testBit_eq
  intro i
  rw [Nat.testBit_and, Nat.testBit_div_two, Nat.testBit_div_two, Nat.testBit_div_two, Nat.testBit_and]
theorem pop_pred : ∀ n : Nat, 0 < n → pop (n &&& (n - 1)) + 1 = pop n := by
  intro n
  induction n using Nat.strongRecOn with
  | ind n ih =>
    intro h
    rw [pop_step (n &&& (n - 1)), pop_step n, and_mod2, and_div2]
    rcases Nat.mod_two_eq_zero_or_one n with e | e
    · have h2 : 0 < n / 2 := by omega
      have e2 : (n - 1) / 2 = n / 2 - 1 := by omega
      have := ih (n / 2) (by omega) h2
      rw [e2, e]
      omega
    · have e2 : (n - 1) / 2 = n / 2 := by omega
      have e3 : (n - 1) % 2 = 0 := by omega
      have e4 : n / 2 &&& n / 2 = n / 2 := Nat.and_self _
      rw [e2, e3, e, e4]
      omega
theorem and_pred_lt {n : Nat} (h : 0 < n) : n &&& (n - 1) < n := by
  have := Nat.and_le_right (n := n) (m := n - 1)
  omega
/-- how many of the first k places p holds at -/
def cnt (p : Nat → Bool) : Nat → Nat
  | 0 => 0
  | k + 1 => cnt p k + (p k).toNat
def bI (b : Bool) : Int := if b then 1 else 0
theorem or_div2 (a b : Nat) : (a ||| b) / 2 = (a / 2) ||| (b / 2) := by
  apply Nat.eq_of_testBit_eq
  intro i
  rw [Nat.testBit_or, Nat.testBit_div_two, Nat.testBit_div_two, Nat.testBit_div_two, Nat.testBit_or]
theorem mod2_b (a : Nat) : a % 2 = (a.testBit 0).toNat := by
  rw [Nat.testBit_zero]
  rcases Nat.mod_two_eq_zero_or_one a with e | e <;> rw [e] <;> rfl
theorem or_mod2 (a b : Nat) : (a ||| b) % 2 + (a &&& b) % 2 = a % 2 + b % 2 := by
  rw [mod2_b, mod2_b (a &&& b), mod2_b a, mod2_b b, Nat.testBit_or, Nat.testBit_and]
  cases a.testBit 0 <;> cases b.testBit 0 <;> rfl
theorem or_add_and : ∀ a b : Nat, (a ||| b) + (a &&& b) = a + b := by
  intro a
  induction a using Nat.strongRecOn with
  | ind a ih =>
    intro b
    by_cases ha : a = 0
    · subst ha; simp
    · have q := ih (a / 2) (by omega) (b / 2)
      have h1 := or_div2 a b
      have h2 := and_div2 a b
      have h3 := or_mod2 a b
      rw [← h1, ← h2] at q
      omega
theorem pow2_cast (n : Nat) : ((2 : Int) ^ n) = ((2 ^ n : Nat) : Int) := by push_cast; rfl
theorem emod_nat (y : Int) {n : Nat} (h : 0 < n) : ∃ k : Nat, y % (n : Int) = (k : Int) ∧ k < n := by
  have h1 := Int.emod_nonneg y (show ((n : Int)) ≠ 0 by omega)
  have h2 := Int.emod_lt_of_pos y (show (0 : Int) < (n : Int) by omega)
  exact ⟨(y % n).toNat, by omega, by omega⟩
end Tw

set_option Elab.async false
set_option linter.all false
set_option maxRecDepth 100000
namespace L2
open PySem PySem.Spec PyProof.Rows
/-! What readings are simplified by. -/
theorem scal_ii (a b : Int) : scal (.int a) (.int b) = true := rfl
theorem scal_ss (a b : Str) : scal (.str a) (.str b) = true := rfl
theorem bitAnd_nat (a b : Nat) : Builtin.bitAnd (a : Int) (b : Int) = ((a &&& b : Nat) : Int) := by
  rw [bitAnd_pp (by omega) (by omega)]; simp
theorem bitOr_nat (a b : Nat) : Builtin.bitOr (a : Int) (b : Int) = ((a ||| b : Nat) : Int) := by
  have h : Builtin.bitOr (a : Int) (b : Int) = a + b - ((a &&& b : Nat) : Int) := by rw [bitOr_and, bitAnd_nat]
  have e := Tw.or_add_and a b
  omega
theorem bitAnd_bit (x i : Nat) : Builtin.bitAnd ((x : Int) / 2 ^ i) 1 = Tw.bI (x.testBit i) := by
  have e : ((x : Int) / 2 ^ i) = ((x / 2 ^ i : Nat) : Int) := by push_cast; rfl
  have e1 : (1 : Int) = ((1 : Nat) : Int) := rfl
  rw [e, e1, bitAnd_nat, Nat.and_one_is_mod]
  rw [Nat.testBit_eq_decide_div_mod_eq]
  unfold Tw.bI
  rcases Nat.mod_two_eq_zero_or_one (x / 2 ^ i) with h | h <;> rw [h] <;> rfl
theorem bitAnd_pred {n : Nat} (h : 0 < n) : Builtin.bitAnd (n : Int) ((n : Int) - 1) = ((n &&& (n - 1) : Nat) : Int) := by
  have e : ((n : Int) - 1) = ((n - 1 : Nat) : Int) := by omega
  rw [e, bitAnd_nat]
theorem SqT.upd {K : PySem.W.Frag} {H : Hp} {p a : Addr} {o : HO} {xs : List V} (h : H p = none) (s : SqT K H a xs) : SqT K (upd H p o) a xs := (same_new h o).tup s
theorem Same.updR {H H1 : Hp} {p : Addr} {o : HO} (s : Same H H1) (h : H1 p = none) : Same H (upd H1 p o) := s.trans (same_new h o)
theorem upd_get {H : Hp} {p a : Addr} {o u : HO} (h : H p = none) (s : H a = some u) : upd H p o a = some u := same_new h o a u s
section
variable {K : PySem.W.Frag} {H : Hp} {Q : VK} {a b : Addr} {i j : Int} {x y : Str} {p q : Bool}
theorem rEq_i : rEq (.int i) (.int j) H Q = Q (.bl (decide (i = j))) H := by
  unfold rEq
  rw [scal_ii]
  simp only [V.int.injEq, true_and]
theorem rNe_i : rNe (.int i) (.int j) H Q = Q (.bl (!decide (i = j))) H := by
  unfold rNe
  rw [scal_ii]
  simp only [V.int.injEq, true_and]
theorem rEq_s : rEq (.str x) (.str y) H Q = Q (.bl (decide (x = y))) H := by
  unfold rEq
  rw [scal_ss]
  simp only [V.str.injEq, true_and]
theorem rNe_s : rNe (.str x) (.str y) H Q = Q (.bl (!decide (x = y))) H := by
  unfold rNe
  rw [scal_ss]
  simp only [V.str.injEq, true_and]
end
theorem cxOf_K {CX : CXT} {P : Program} {w : World} {K : PySem.W.Frag} {mg : Str → Option Value} {base : Heap} {N : List Str} {qual : Str} {scope : Scope} {f : Addr} {cd : Value} {A : Around} {outer : List Env} {s : Shared} {H : Hp} {E : XK} : (cxOf CX P w K mg base N qual scope f cd A outer s H E).K = K := rfl
theorem cpow_n {i : Int} {n : Nat} (h : n ≤ 1000) (h2 : i.natAbs < 2 ^ 64 := by decide) : CPow i (n : Int) := ⟨by omega, by omega, h2⟩
section
variable {K : PySem.W.Frag} {H : Hp} {Q : VK} {a b : Addr} {i1 i2 i3 j1 j2 j3 : Int}
end
end L2

set_option Elab.async false
set_option linter.all false
set_option maxRecDepth 100000
namespace L2
open PySem PySem.Spec PyProof.Rows
/-! One step of a reading, at its head. -/
section
variable {K : PySem.W.Frag} {H : Hp} {Q : VK} {R : Bool → Hp → Prop} {D : Ends} {σ : St} {t u : TS} {te ta tb : TE} {tt tu : TT} {tA : TA} {g : TG} {gs : TGs} {v w : V} {a b : Addr} {i j : Int} {p q : Bool} {x y : Str} {n m k : Nat}
theorem st_seq (h : t { D with nx := u D } σ H) : tSeq t u D σ H := h
theorem st_next (h : D.nx σ H) : tNext D σ H := h
theorem st_asg (h : te σ H fun x H1 => g x σ H1 D.nx) : tAsg te g D σ H := h
theorem st_ret (h : te σ H D.rt) : tRet te D σ H := h
theorem st_drop (h : te σ H fun _ H1 => D.nx σ H1) : tDrop te D σ H := h
theorem st_if (h : tt σ H fun b H1 => if b = true then t D σ H1 else u D σ H1) : tIfS tt t u D σ H := h
theorem st_gname {P : St → Hp → Prop} (h : P (σ.set n (some v)) H) : gName n v σ H P := h
theorem st_gtup {P : St → Hp → Prop} {xs : List V} (s : SqT K H a xs) (l : xs.length = n) (h : gs xs σ H P) : gTup K n gs (.ref a) σ H P := ⟨a, xs, rfl, s, l, h⟩
theorem st_gcons {P : St → Hp → Prop} {r : List V} (h : g v σ H fun σ' H' => gs r σ' H' P) : gCons g gs (v :: r) σ H P := ⟨v, r, rfl, h⟩
theorem st_gnil {P : St → Hp → Prop} (h : P σ H) : gNil [] σ H P := ⟨rfl, h⟩
theorem st_c (h : Q v H) : tC v σ H Q := h
theorem st_var (e : σ[n]? = some (some v)) (h : Q v H) : tVar n σ H Q := ⟨v, e, h⟩
theorem st_op {r : R2} (h : ta σ H fun x H1 => tb σ H1 fun y H2 => r x y H2 Q) : tOp r ta tb σ H Q := h
theorem st_test (h : te σ H fun x H' => ∃ k, x = .bl k ∧ R k H') : tTest te σ H R := h
theorem st_tB (h : te σ H fun x H' => ∃ k, x = .bl k ∧ R k H') : tB te σ H R := h
theorem st_bl {P : Bool → Prop} (h : P p) : ∃ k, V.bl p = V.bl k ∧ P k := ⟨p, rfl, h⟩
theorem st_and (h : tt σ H fun c H1 => if c = true then tu σ H1 R else R false H1) : tAnd tt tu σ H R := h
theorem st_or (h : tt σ H fun c H1 => if c = true then R true H1 else tu σ H1 R) : tOr tt tu σ H R := h
theorem st_not (h : tt σ H fun c H1 => R (!c) H1) : tNot tt σ H R := h
theorem st_andV (h : ta σ H fun x H1 => ∃ c, x = .bl c ∧ if c = true then tb σ H1 Q else Q (.bl false) H1) : tAndV ta tb σ H Q := h
theorem st_orV (h : ta σ H fun x H1 => ∃ c, x = .bl c ∧ if c = true then Q (.bl true) H1 else tb σ H1 Q) : tOrV ta tb σ H Q := h
theorem st_notV (h : ta σ H fun x H1 => ∃ c, x = .bl c ∧ Q (.bl (!c)) H1) : tNotV ta σ H Q := h
theorem st_ifE (h : tt σ H fun c H1 => if c = true then ta σ H1 Q else tb σ H1 Q) : tIf tt ta tb σ H Q := h
theorem st_call {sp : Sp} {dvs : List V} {E : XK} (h : tA σ H fun vs H1 => sp (vs ++ dvs) H1 Q E) : tCall sp dvs E tA σ H Q := h
theorem st_cb {r : List V → Hp → VK → Prop} (h : tA σ H fun vs H1 => r vs H1 Q) : tCB r tA σ H Q := h
theorem st_cons {P : List V → Hp → Prop} (h : te σ H fun x H1 => tA σ H1 fun xs H2 => P (x :: xs) H2) : tCons te tA σ H P := h
theorem st_nil {P : List V → Hp → Prop} (h : P [] H) : tNil σ H P := h
theorem st_tup (h : tA σ H fun xs H1 => xs.length ≤ sizeLine ∧ ∀ p, H1 p = none → Q (.ref p) (upd H1 p (.tup xs))) : tTup tA σ H Q := h
theorem st_lst (h : tA σ H fun xs H1 => xs.length ≤ sizeLine ∧ ∀ p, H1 p = none → Q (.ref p) (upd H1 p (.lst xs))) : tLst tA σ H Q := h
theorem st_size {A : Prop} {xs : List V} (h : Nat.ble xs.length 1000 = true) (q : A) : xs.length ≤ sizeLine ∧ A := ⟨Nat.le_of_lt (small1000 (Nat.le_of_ble_eq_true h)), q⟩
theorem st_part {P : Option Int → Hp → Prop} (h : te σ H fun x H1 => ∃ i, x = .int i ∧ P (some i) H1) : tPart te σ H P := h
theorem st_int {P : Int → Prop} (h : P i) : ∃ k, V.int i = V.int k ∧ P k := ⟨i, rfl, h⟩
theorem st_nopart {P : Option Int → Hp → Prop} (h : P none H) : tNoPart σ H P := h
theorem st_sl {r : V → Option Int → Option Int → Hp → VK → Prop} {tl th : TO} (h : te σ H fun x H1 => tl σ H1 fun l H2 => th σ H2 fun u H3 => r x l u H3 Q) : tSl r te tl th σ H Q := h
theorem st_slL {xs : List V} {lo hi : Option Int} (s : SqL K H a xs) (h : ∀ p, H p = none → Q (.ref p) (upd H p (.lst (cutV xs lo hi)))) : rSlL K (.ref a) lo hi H Q := ⟨a, xs, rfl, s, h⟩
theorem st_i0 {g : Int → Int → V} (h : Q (g i j) H) : rI0 g (.int i) (.int j) H Q := ⟨i, j, rfl, rfl, h⟩
theorem st_i {C : Int → Int → Prop} {g : Int → Int → V} (c : C i j) (h : Q (g i j) H) : rI C g (.int i) (.int j) H Q := ⟨i, j, rfl, rfl, c, h⟩
theorem st_eqi (h : Q (.bl (decide (i = j))) H) : rEq (.int i) (.int j) H Q := by rw [rEq_i]; exact h
theorem st_nei (h : Q (.bl (!decide (i = j))) H) : rNe (.int i) (.int j) H Q := by rw [rNe_i]; exact h
theorem st_eqs (h : Q (.bl (decide (x = y))) H) : rEq (.str x) (.str y) H Q := by rw [rEq_s]; exact h
theorem st_nes (h : Q (.bl (!decide (x = y))) H) : rNe (.str x) (.str y) H Q := by rw [rNe_s]; exact h
theorem st_ixT {xs : List V} (s : SqT K H a xs) (e : atI xs i = some v) (h : Q v H) : rIxT K (.ref a) (.int i) H Q := ⟨a, xs, i, v, rfl, rfl, s, e, h⟩
theorem st_ixL {xs : List V} (s : SqL K H a xs) (e : atI xs i = some v) (h : Q v H) : rIxL K (.ref a) (.int i) H Q := ⟨a, xs, i, v, rfl, rfl, s, e, h⟩
theorem st_orN (h : Q (.int ((n ||| m : Nat) : Int)) H) : rI0 (fun i j => .int (Builtin.bitOr i j)) (.int (n : Int)) (.int (m : Int)) H Q := st_i0 (by rw [bitOr_nat]; exact h)
theorem st_bit (h : Q (.int (Tw.bI (n.testBit k))) H) : rI0 (fun i j => .int (Builtin.bitAnd i j)) (.int ((n : Int) / 2 ^ k)) (.int 1) H Q := st_i0 (by rw [bitAnd_bit]; exact h)
theorem st_shrN (h : Q (.int (i / 2 ^ k)) H) : rI (fun _ j => 0 ≤ j) (fun i j => .int (i / 2 ^ j.toNat)) (.int i) (.int (k : Int)) H Q := st_i (by omega) (by rw [Int.toNat_natCast]; exact h)
theorem st_shl1 (c : k ≤ 1000) (h : Q (.int ((2 ^ k : Nat) : Int)) H) : rI CPow (fun i j => .int (i * 2 ^ j.toNat)) (.int 1) (.int (k : Int)) H Q := st_i (cpow_n c) (by rw [Int.toNat_natCast, Int.one_mul, Tw.pow2_cast]; exact h)
theorem st_modN (c : 0 < n) (h : ∀ k : Nat, i % (n : Int) = (k : Int) → k < n → Q (.int (k : Int)) H) : rI (fun _ j => 0 < j) (fun i j => .int (i % j)) (.int i) (.int (n : Int)) H Q := st_i (by omega) (by
  obtain ⟨k, e, l⟩ := Tw.emod_nat i c
  rw [e]; exact h k e l)
theorem st_isi {c : V} {cv t : Value} (ty : TyOf K H v t) (e : PySem.W.kitOne K t cv = some p) (h : Q (.bl p) H) : rIsi K c cv [v, c] H Q := ⟨v, t, p, rfl, ty, e, h⟩
end
theorem iteD {c : Prop} [Decidable c] {A B : Prop} (h1 : c → A) (h2 : ¬ c → B) : if decide c = true then A else B := by
  by_cases h : c
  · rw [decide_eq_true h]; exact iteT (h1 h)
  · rw [decide_eq_false h]; exact iteF (h2 h)
theorem iteN {c : Prop} [Decidable c] {A B : Prop} (h1 : ¬ c → A) (h2 : c → B) : if (!decide c) = true then A else B := by
  by_cases h : c
  · rw [decide_eq_true h]; exact iteF (h2 h)
  · rw [decide_eq_false h]; exact iteT (h1 h)
theorem pow_pos2 (n : Nat) : 0 < 2 ^ n := Nat.pow_pos (by decide)
theorem at_i {cs : List Int} {i : Nat} (h : i < cs.length) : ∃ c, atI (cs.map V.int) (i : Int) = some (.int c) :=
  ⟨cs[i], atI_nat (by rw [List.getElem?_map, List.getElem?_eq_getElem h]; rfl)⟩
theorem iteNT {A B : Prop} (h : B) : if (!true) = true then A else B := iteF h
theorem iteNF {A B : Prop} (h : A) : if (!false) = true then A else B := iteT h
end L2

set_option Elab.async false
set_option linter.all false
set_option maxRecDepth 100000
namespace L2
open PySem PySem.Spec PyProof.Rows
/-! A list comprehension of one clause: its block as a context of its own. -/
/-- the cells that a comprehension's block takes along -/
def clGo (env : Env) : List (Str × NameKind) → List (Str × Addr) → List (Str × Addr)
  | [], acc => acc
  | (n, k) :: r, acc => if (k == NameKind.free) = true then clGo env r ((n, (env.cells.lookup n).getD 0) :: acc) else clGo env r acc
theorem clGo_eq (env : Env) : ∀ (names : List (Str × NameKind)) (acc : List (Str × Addr)), (∀ p ∈ names, p.2 = .free → ∃ c, env.cells.lookup p.1 = some c) →
    (forIn names acc fun x r => match x with
      | (name, kind) => if (kind == NameKind.free) = true then (do let a ← cellOf env name; pure (ForInStep.yield ((name, a) :: r)) : Sem _) else pure (ForInStep.yield r)) = (pure (clGo env names acc) : Sem _)
  | [], _, _ => rfl
  | (n, k) :: r, acc, h => by
    rw [List.forIn_cons]
    by_cases hk : k = NameKind.free
    · subst hk
      obtain ⟨c, hc⟩ := h (n, .free) List.mem_cons_self rfl
      have e : cellOf env n = pure c := by unfold cellOf; rw [hc]
      simp only [beq_self_eq_true, if_true, e, pure_bind, clGo, hc, Option.getD_some]
      exact clGo_eq env r _ fun p hp => h p (List.mem_cons_of_mem _ hp)
    · have hb : (k == NameKind.free) = false := by simpa using hk
      simp only [hb, Bool.false_eq_true, if_false, pure_bind, clGo]
      exact clGo_eq env r _ fun p hp => h p (List.mem_cons_of_mem _ hp)
theorem closure_is {scope : Scope} {env : Env} (h : ∀ p ∈ scope.names, p.2 = .free → ∃ c, env.cells.lookup p.1 = some c) : closureFor scope env = pure (clGo env scope.names []) := by
  unfold closureFor
  have e := clGo_eq env scope.names [] h
  dsimp only
  rw [e]
  rfl
theorem clGo_lookup (env : Env) {y : Str} : ∀ (names : List (Str × NameKind)) (acc : List (Str × Addr)), (∀ p ∈ names, p.2 = .free → ∃ c, env.cells.lookup p.1 = some c) →
    ∀ c, (clGo env names acc).lookup y = some c → acc.lookup y = some c ∨ (env.cells.lookup y = some c)
  | [], _, _, _, e => .inl e
  | (n, k) :: r, acc, h, c, e => by
    rw [clGo] at e
    by_cases hk : (k == NameKind.free) = true
    · rw [if_pos hk] at e
      have hk' : k = NameKind.free := by simpa using hk
      obtain ⟨c', hc'⟩ := h (n, k) List.mem_cons_self hk'
      rcases clGo_lookup env r _ (fun p hp => h p (List.mem_cons_of_mem _ hp)) c e with q | q
      · rw [List.lookup_cons] at q
        cases hb : y == n with
        | true =>
          rw [hb] at q
          have hb' : y = n := eq_of_beq hb
          subst hb'
          have hc'' : env.cells.lookup y = some c' := hc'
          rw [hc'', Option.getD_some] at q
          rw [hc'']
          exact .inr q
        | false => rw [hb] at q; exact .inl q
      · exact .inr q
    · rw [if_neg hk] at e
      exact clGo_lookup env r _ (fun p hp => h p (List.mem_cons_of_mem _ hp)) c e
theorem clGo_has (env : Env) {y : Str} : ∀ (names : List (Str × NameKind)) (acc : List (Str × Addr)), (y, NameKind.free) ∈ names ∨ (∃ c, acc.lookup y = some c) → ∃ c, (clGo env names acc).lookup y = some c
  | [], _, h => h.elim (fun z => nomatch z) id
  | (n, k) :: r, acc, h => by
    rw [clGo]
    have up : ∀ v : Addr, (∃ c, acc.lookup y = some c) → ∃ c, ((n, v) :: acc).lookup y = some c := fun v ⟨c, e⟩ => by
      rw [List.lookup_cons]
      cases hb : y == n with
      | true => exact ⟨v, rfl⟩
      | false => exact ⟨c, e⟩
    by_cases hk : (k == NameKind.free) = true
    · rw [if_pos hk]
      refine clGo_has env r _ ?_
      rcases h with h | h
      · rcases List.mem_cons.mp h with z | z
        · cases z
          exact .inr ⟨(env.cells.lookup y).getD 0, by rw [List.lookup_cons, beq_self_eq_true]⟩
        · exact .inl z
      · exact .inr (up _ h)
    · rw [if_neg hk]
      refine clGo_has env r _ ?_
      rcases h with h | h
      · rcases List.mem_cons.mp h with z | z
        · cases z
          exact absurd rfl hk
        · exact .inl z
      · exact .inr h

def rlb (env : Env) (n : Str) (k : NameKind) : NameKind := if (k == .free && env.scope.kind == .function && env.kindOf n == some .cell) = true then .cell else k
theorem relabel_lookup (env : Env) (y : Str) : ∀ names : List (Str × NameKind),
    (names.map fun (n, k) => if (k == NameKind.free && env.scope.kind == .function && env.kindOf n == some .cell) = true then (n, NameKind.cell) else (n, k)).lookup y = (names.lookup y).map (rlb env y)
  | [] => rfl
  | (n, k) :: r => by
    have e : (if (k == NameKind.free && env.scope.kind == .function && env.kindOf n == some .cell) = true then (n, NameKind.cell) else (n, k)) = (n, rlb env n k) := by
      unfold rlb; split <;> rfl
    rw [List.map_cons]
    show List.lookup y ((if (k == NameKind.free && env.scope.kind == .function && env.kindOf n == some .cell) = true then (n, NameKind.cell) else (n, k)) :: _) = _
    rw [e, List.lookup_cons, List.lookup_cons]
    cases hb : y == n with
    | true => have := eq_of_beq hb; subst this; rfl
    | false => exact relabel_lookup env y r
theorem relabel_kind (scope : Scope) (env : Env) (y : Str) : (relabel scope env).names.lookup y = (scope.names.lookup y).map (rlb env y) := relabel_lookup env y scope.names
theorem mem_of_lookup {α β : Type} [BEq α] [LawfulBEq α] {y : α} {k : β} : ∀ {l : List (α × β)}, l.lookup y = some k → (y, k) ∈ l
  | (n, j) :: r, e => by
    rw [List.lookup_cons] at e
    cases hb : y == n with
    | true => rw [hb] at e; have := eq_of_beq hb; subst this; cases e; exact List.mem_cons_self
    | false => rw [hb] at e; exact List.mem_cons_of_mem _ (mem_of_lookup e)
/-- what the block's scope must be: its own name x, the rest free (a cell or free where the def stands) or global -/
structure CpScope (sc : Scope) (x : Str) (scope : Scope) : Prop where
  kind : scope.kind = .function
  cell : ∀ y ∈ scope.names, y.2 ≠ .cell
  own : scope.names.lookup x = some .local
  loc : ∀ y ∈ scope.names, y.2 = .local → y.1 = x ∨ y.1 = (".0" : Str)
  nam : ∀ y ∈ scope.names, y.2 = .local → scope.names.lookup y.1 = some .local
  free : ∀ y ∈ scope.names, y.2 = .free → sc.names.lookup y.1 = some .cell ∨ sc.names.lookup y.1 = some .free
  two : ∀ y ∈ scope.names, y.2 = .free → y.1 ≠ x
/-- the block's context -/
def Cx.comp (X : Cx) (M : List Str) (scope : Scope) (x : Str) (C : Addr) (s : Shared) (H : Hp) (ex : List Addr) : Cx :=
  { X with N := x :: M, s₀ := s, H₀ := H, env := compEnvC scope (clGo X.env scope.names []) C X.env, outer := X.stack, ex := ex, fn := fun _ => false, pn := [], xe := fun _ _ => False }
section
variable {X : Cx} {M : List Str} {pins : List (Addr × Obj)} {σ : St} {H : Hp} {s : Shared} {scope : Scope} {x : Str}
theorem CpScope.has (S : CpScope X.env.scope x scope) (ok : X.Ok) : ∀ p ∈ scope.names, p.2 = .free → ∃ c, X.env.cells.lookup p.1 = some c := fun p hp e => ok.has p.1 (S.free p hp e)
theorem CpScope.cells (S : CpScope X.env.scope x scope) (ok : X.Ok) {y : Str} {c : Addr} (e : (clGo X.env scope.names []).lookup y = some c) : X.env.cells.lookup y = some c := by
  rcases clGo_lookup X.env scope.names [] (S.has ok) c e with z | z
  · cases z
  · exact z
/-- a name that the block sees is its own, or free there -/
theorem CpScope.sees (S : CpScope X.env.scope x scope) {y : Str} (hy : (relabel scope X.env).names.lookup y ≠ some .local) (hv : Vis (relabel scope X.env) y) : (y, NameKind.free) ∈ scope.names ∧ ((relabel scope X.env).names.lookup y = some .cell ∨ (relabel scope X.env).names.lookup y = some .free) := by
  unfold Vis at hv
  rw [relabel_kind] at hv ⊢
  cases e : scope.names.lookup y with
  | none => rw [e] at hv; rcases hv with z | z | z <;> cases z
  | some k =>
    have hm := mem_of_lookup e
    rw [e] at hv
    have hk : k = .free := by
      by_cases hf : k = .free
      · exact hf
      · have hr : rlb X.env y k = k := by
          unfold rlb
          have : (k == NameKind.free) = false := by simpa using hf
          rw [this]; rfl
        rw [Option.map_some, hr] at hv
        rcases hv with z | z | z
        · rw [relabel_kind, e, Option.map_some, hr] at hy
          exact absurd z hy
        · exact absurd (Option.some.inj z) (S.cell _ hm)
        · exact Option.some.inj z
    subst hk
    refine ⟨hm, ?_⟩
    rw [Option.map_some]
    unfold rlb
    split
    · exact .inl rfl
    · exact .inr rfl
theorem CpScope.ok (S : CpScope X.env.scope x scope) (I : Inv X pins σ H s) {C : Addr} (hC : s.heap.objs.size ≤ C) {fp : List Addr} (hf : ∀ b ∈ fp, FpOk X pins H b) (hl : ∀ b ∈ fp, b < s.heap.objs.size) : (X.comp M scope x C s H fp).Ok where
  mod := I.ok.mod
  kind := S.kind
  glob := I.ok.glob
  blt := I.ok.blt
  above := hC
  inj := fun y z c e1 e2 => I.ok.inj y z c (S.cells I.ok e1) (S.cells I.ok e2)
  has := fun y hy => by
    have hv : Vis (relabel scope X.env) y := .inr hy
    have hne : (relabel scope X.env).names.lookup y ≠ some .local := fun e => by
      have hy' : (relabel scope X.env).names.lookup y = some .cell ∨ (relabel scope X.env).names.lookup y = some .free := hy
      rw [e] at hy'
      rcases hy' with q | q <;> cases q
    exact clGo_has X.env scope.names [] (.inl (S.sees hne hv).1)
  cab := fun _ _ z => nomatch z
  hd := I.ok.hd
  frames := I.ok.frames
  stk := .inl rfl
  exf := fun b hb => ⟨fun z => by
      have h1 := hl b hb
      have z' : b = C := z
      rw [z'] at h1
      exact Nat.not_le.mpr h1 hC, fun y c e => (hf b hb).2.2.2.2.1 y c (S.cells I.ok e)⟩
  bs := I.bs
  bsz := Nat.le_trans I.ok.bsz I.sz
  noex := fun b o e hb => by
    rcases (hf b hb).2.2.2.1 with z | z
    · exact I.ok.noex b o e z
    · have h1 := Heap.lt_size e
      have h2 := I.ok.bsz
      exact absurd (Nat.lt_of_lt_of_le (Nat.lt_of_lt_of_le h1 h2) z) (Nat.lt_irrefl _)
  exfs := fun b hb z => by
    rcases List.mem_cons.mp (I.stkSub b z) with q | q
    · exact (hf b hb).2.1 q
    · exact (hf b hb).2.2.1 q
  funs := I.stack
  frf := I.stkFree
/-- entering the block -/
theorem CpScope.inv (S : CpScope X.env.scope x scope) (hx : x ∉ M) (h0 : (".0" : Str) ∉ M) (hlen : M.length = X.N.length) (hM : ∀ (j : Nat) y, M[j]? = some y → X.N[j]? = some y ∨ scope.names.lookup y = none) (I : Inv X pins σ H s) {C : Addr} (hC : s.heap.objs.size ≤ C) {fp : List Addr} (hf : ∀ b ∈ fp, FpOk X pins H b) (hl : ∀ b ∈ fp, b < s.heap.objs.size) {h1 : Heap} {t1 : Nat}
    (old : ∀ b o, s.heap.get? b = some o → h1.get? b = some o) {m : Str → Option Value} (ns : h1.Ns C m) : Inv (X.comp M scope x C s H fp) [] (none :: σ) H { s with heap := h1, toks := t1 } where
  ok := S.ok I hC hf hl
  os := rfl
  bare := I.bare
  base := Un.kept old
  loc := by
    refine ⟨m, ns, fun i y v e1 e2 hv => ?_⟩
    cases i with
    | zero => cases e2
    | succ j =>
      have e1' : M[j]? = some y := by simpa [Cx.comp] using e1
      have e2' : σ[j]? = some (some v) := by simpa using e2
      by_cases hy : (relabel scope X.env).names.lookup y = some .local
      · exfalso
        rw [relabel_kind] at hy
        cases e : scope.names.lookup y with
        | none => rw [e] at hy; cases hy
        | some k =>
          rw [e, Option.map_some] at hy
          have hk : k = .local := by
            have hy' := Option.some.inj hy
            unfold rlb at hy'
            split at hy'
            · cases hy'
            · exact hy'
          rcases S.loc _ (mem_of_lookup e) hk with z | z
          · have z' : y = x := z
            subst z'; exact hx (List.mem_of_getElem? e1')
          · have z' : y = (".0" : Str) := z
            subst z'; exact h0 (List.mem_of_getElem? e1')
      · obtain ⟨hm, hk⟩ := S.sees hy hv
        obtain ⟨m0, _, hl0⟩ := I.loc
        have hx0 : Vis X.env.scope y := .inr (S.free _ hm rfl)
        have e1' : X.N[j]? = some y := by
          rcases hM j y e1' with z | z
          · exact z
          · exfalso
            unfold Vis at hv
            have hv' : (relabel scope X.env).names.lookup y = some .local ∨ (relabel scope X.env).names.lookup y = some .cell ∨ (relabel scope X.env).names.lookup y = some .free := hv
            rw [relabel_kind, z] at hv'
            rcases hv' with q | q | q <;> cases q
        obtain ⟨u, r, l⟩ := hl0 j y v e1' e2' hx0
        refine ⟨u, r, .inr ⟨hk, ?_⟩⟩
        obtain ⟨c, hc⟩ := clGo_has X.env scope.names [] (.inl hm)
        refine ⟨c, hc, ?_⟩
        have hc0 := S.cells I.ok hc
        rcases l with ⟨k0, _⟩ | ⟨_, c0, e0, q0⟩
        · rcases S.free _ hm rfl with z | z
          · have k0' : X.env.scope.names.lookup y = some .local := k0
            rw [z] at k0'; cases k0'
          · have k0' : X.env.scope.names.lookup y = some .local := k0
            rw [z] at k0'; cases k0'
        · rw [hc0] at e0; cases e0
          obtain ⟨o, ho, hd⟩ := q0
          exact ⟨o, old _ _ ho, hd⟩
  cell := fun y c e => by
    obtain ⟨v, o, ho, hd⟩ := I.cell y c (S.cells I.ok e)
    exact ⟨v, o, old _ _ ho, hd⟩
  free := I.hok.fresh hC
  freeC := fun y c e => I.freeC y c (S.cells I.ok e)
  pin := fun p hp => by cases hp
  hok := I.hok.kept old
  len := by simp [Cx.comp, I.len, hlen]
end
/-! the tests of the clause -/
def PIfs (X : Cx) (ifs : List Expr) (t : TT) : Prop :=
  ∀ (pins : List (Addr × Obj)) (s : Shared) (σ : St) (H : Hp) (Q : Bool → Hp → Prop), Inv X pins σ H s → t σ H Q →
    wpAny (model X.prog X.w) X.A (forIn ifs true fun c r => if r = true then do let ok ← isTrue c X.env (eval c X.env); pure (ForInStep.yield ok) else pure (ForInStep.yield r)) (TP X pins σ Q) X.xe s
def tYes : TT := fun _ H Q => Q true H
theorem pif_nil {X : Cx} : PIfs X [] tYes := fun _ _ _ H _ I h => wpAny_tests_nil ⟨H, I, h⟩
theorem pif_one {X : Cx} {c : Expr} {t : TT} (h : PT X c t) : PIfs X [c] t := fun pins s σ H Q I q => wpAny_tests_one (h pins s σ H Q I q)
theorem compLoop_any {prog : Program} {w : World} {A : Around} {R : Result → Shared → Prop} {s : Shared} {elt target iter : Expr} {ifs : List Expr} {scope : Scope} {pos : Pos} {it acc : Value} {env : Env} (I : Nat → Shared → Prop)
    (turn : ∀ n s, I n s → wpAny (model prog w) A (pyNext it) (fun r s₁ => match r with
      | none => R (.ok .next) s₁
      | some v => wpAny (model prog w) A (letOwnedTupleGo target it v) (fun _ s₀ => wpAny (model prog w) A (assign target env v) (fun _ s₂ =>
          wpAny (model prog w) A (forIn ifs true fun c r => if r = true then do let ok ← isTrue c env (eval c env); pure (ForInStep.yield ok) else pure (ForInStep.yield r)) (fun ok s₃ =>
            if ok = true then wpAny (model prog w) A (eval elt env) (fun x s₄ =>
              wpAny (model prog w) A (call (.builtin "list.append") [acc, x]) (fun _ s₅ => ∃ m, m < n ∧ I m s₅) (fun _ _ => False) s₄) (fun _ _ => False) s₃
            else ∃ m, m < n ∧ I m s₃) (fun _ _ => False) s₂) (fun _ _ => False) s₀) (fun _ _ => False) s₁) (fun _ _ => False) s)
    (n : Nat) (h : I n s) : codeAny (model prog w) A (.compLoop (.ListComp elt [⟨target, iter, ifs, 0⟩] scope pos) 0 it acc env) R s := by
  refine codeAny_loop rfl I (fun n s hI => ?_) n h
  show wpAny _ A ((compTurn (.ListComp elt [⟨target, iter, ifs, 0⟩] scope pos) 0 it acc env).onRaise (fun x => do noteFrame x env; theTreesLotGoes x)) _ _ s
  refine wpAny_noted ?_
  rw [compTurn_list]
  refine wpAny_bind (wpAny_standAt (wpAny_bind (wpAny_mono (turn n s hI) (fun r s₁ h₁ => ?_) fun _ _ h' => h'.elim)))
  cases r with
  | none => exact wpAny_pure h₁
  | some v =>
    refine wpAny_bind (wpAny_mono h₁ (fun _ s₀ h₀ => ?_) fun _ _ h' => h'.elim)
    refine wpAny_bind (wpAny_mono h₀ (fun _ s₂ h₂ => wpAny_bind (wpAny_mono h₂ (fun ok s₃ h₃ => ?_) fun _ _ h' => h'.elim)) fun _ _ h' => h'.elim)
    cases ok with
    | false => exact wpAny_pure ⟨rfl, h₃⟩
    | true =>
      exact wpAny_bind (wpAny_bind (wpAny_mono h₃ (fun x s₄ h₄ => wpAny_bind (wpAny_mono h₄ (fun _ s₅ h₅ => wpAny_pure (wpAny_pure ⟨rfl, h₅⟩)) fun _ _ h' => h'.elim)) fun _ _ h' => h'.elim))
/-- what a comprehension asks: an invariant over the turn, a measure and the list made so far -/
def tComp (wi : TI) (tt : TT) (te : TE) : TE := fun σ H Q => wi σ H fun J H1 => ∃ W : Nat → Nat → List V → Hp → Prop, (∃ m, W 0 m [] H1) ∧ ∀ i m ys H, W i m ys H →
  (J.stop i H ∧ ∀ p, H p = none → Q (.ref p) (upd H p (.lst ys))) ∨
  (J.go i H ∧ ys.length < sizeLine ∧ ∃ N : List V → Hp → Prop, (∀ ys' H', N ys' H' → ∃ m', m' < m ∧ W (i + 1) m' ys' H') ∧
    ∀ x H', J.yld i H x H' → tt (some x :: σ) H' fun b H2 => if b = true then te (some x :: σ) H2 fun y H3 => N (ys ++ [y]) H3 else N ys H2)
section
variable {X : Cx} {M : List Str} {scope : Scope} {x : Str} {px pos : Pos} {elt iter : Expr} {ifs : List Expr} {wi : TI} {tt : TT} {te : TE}
theorem comp_core {sc : Scope} {use : Option (Value → Sem Unit)} {QQ : Value → Shared → Prop} {Q : VK} {pins : List (Addr × Obj)} {s : Shared} {σ : St} {H : Hp} {cpos : Pos} (hsc : X.env.scope = sc) (S : CpScope sc x scope) (hx : x ∉ M) (h0 : (".0" : Str) ∉ M) (hN : M.Nodup) (hlen : M.length = X.N.length) (hM : ∀ (j : Nat) y, M[j]? = some y → X.N[j]? = some y ∨ scope.names.lookup y = none) (hc : X.calm = true) (hi : PI X (.Name x px) iter wi)
    (ht : ∀ C s H ex, PIfs (X.comp M scope x C s H ex) ifs tt) (he : ∀ C s H ex, PE (X.comp M scope x C s H ex) elt te) (I : Inv X pins σ H s) (h : tComp wi tt te σ H Q)
    (fin : ∀ (D C : Addr) (s4 : Shared) (H4 : Hp), C ≠ X.env.locals → (∀ y c, X.env.cells.lookup y = some c → c ≠ C) → (∀ p ∈ X.pn ++ pins, p.1 ≠ C) → X.s₀.heap.objs.size ≤ C → H4 C = none → (∃ m, s4.heap.Ns C m) →
      (∀ h', Heap.SameBut C s4.heap h' → Inv X pins σ H4 { s4 with heap := h' }) → Q (.ref D) H4 → compPost (model X.prog X.w) X.A X.xe use QQ (.ref D) C (.ok .next) s4)
    (hs : ∀ v, foldedSetIterable iter X.env v = pure v) :
    wpAny (model X.prog X.w) X.A (comprehension (.ListComp elt [⟨.Name x px, iter, ifs, 0⟩] scope pos) scope X.env cpos (newList []) false (eval iter X.env) use) QQ X.xe s := by
  subst hsc
  have hnames := S.nam
  refine wpAny_comprehension_free (use := use) rfl hs (closure_is (S.has I.ok)) S.kind hnames (thn (hi pins s σ H _ I h) fun v s1 h1 => thn h1 fun itv s2 h2 => ?_)
  obtain ⟨it, fp, tn, J, H2, e, I2, T, st2, f2, W, ⟨m0, w0⟩, turn⟩ := h2
  subst e
  refine wpAny_newObj_type (wpAny_newFunctionEnv S.cell (by intro y hy; simp at hy) (fun h₁ hns₁ hsb₁ => ?_) S.kind)
  dsimp only at hns₁ hsb₁ ⊢
  generalize hG : s2.heap.push { cls := .type "list", dict := none, data := .seq ([] : List Value).toArray } = G at hns₁ hsb₁ ⊢
  have hC : G.objs.size = s2.heap.objs.size + 1 := by rw [← hG, Heap.size_push]
  have hDC : s2.heap.objs.size ≠ G.objs.size := by omega
  have below : ∀ b, b < s2.heap.objs.size → b ≠ G.objs.size ∧ b ≠ s2.heap.objs.size := fun b hb => ⟨by omega, by omega⟩
  have old : ∀ b o, s2.heap.get? b = some o → h₁.get? b = some o := fun b o e => hsb₁.extBut b o (below b (Heap.lt_size e)).1 (Heap.get?_push_of_some _ (hG ▸ Heap.get?_push_of_some _ e))
  have hacc : h₁.get? s2.heap.objs.size = some { cls := .type "list", data := .seq ([] : List Value).toArray } := hsb₁.extBut _ _ hDC (Heap.get?_push_of_some _ (hG ▸ Heap.get?_push_size _ rfl))
  have hlt : ∀ b ∈ fp, b < s2.heap.objs.size := fun b hb => by
    obtain ⟨o, e, _⟩ := T.obj _ _ st2 b hb
    exact Heap.lt_size e
  have ctop : ∀ y c, (clGo X.env scope.names []).lookup y = some c → c < s2.heap.objs.size := fun y c e => by
    obtain ⟨v, q⟩ := I2.cell y c (S.cells I2.ok e)
    exact q.lt
  have hCle : s2.heap.objs.size ≤ G.objs.size := by omega
  have IY : ∀ t1, Inv (X.comp M scope x G.objs.size s2 H2 fp) [] (none :: σ) H2 { s2 with heap := h₁, toks := t1 } := fun t1 => S.inv hx h0 hlen hM I2 hCle f2 hlt old hns₁
  have nost : ∀ b, s2.heap.objs.size ≤ b → b ∉ frs X.stack := fun b hb z => by
    rcases List.mem_cons.mp (I2.stkSub b z) with q | q
    · exact Nat.not_le.mpr I2.lt (q ▸ hb)
    · exact I2.nofs hb q
  have hD : s2.heap.objs.size ∉ frs X.stack := nost _ (Nat.le_refl _)
  have ptop : ∀ {pl : List (Addr × Obj)} {H' : Hp}, (∀ b ∈ fp, H' b = none) → (∀ p ∈ pl, p.1 ∉ fp) → ∀ b ∈ fp, FpOk (X.comp M scope x G.objs.size s2 H2 fp) pl H' b := fun {pl H'} hn hp b hb =>
    ⟨hn b hb, fun z => (below b (hlt b hb)).1 z, fun z => (S.ok I2 hCle f2 hlt).exfs b hb z, .inl hb, fun y c e => (f2 b hb).2.2.2.2.1 y c (S.cells I2.ok e), fun p hp' z => hp p hp' (z ▸ hb)⟩
  have Dfp : s2.heap.objs.size ∉ fp := fun z => Nat.lt_irrefl _ (hlt _ z)
  have loop : ∀ t1, codeAny (model X.prog X.w) X.A (.compLoop (.ListComp elt [⟨.Name x px, iter, ifs, 0⟩] scope pos) 0 (.ref it) (.ref s2.heap.objs.size) (compEnvC scope (clGo X.env scope.names []) G.objs.size X.env))
      (compPost (model X.prog X.w) X.A X.xe use QQ (.ref s2.heap.objs.size) G.objs.size) { s2 with heap := h₁, toks := t1 } := by
    intro t1
    refine compLoop_any (fun n s' => ∃ i o H' ys its k, Inv (X.comp M scope x G.objs.size s2 H2 fp) [(s2.heap.objs.size, { cls := .type "list", data := .seq its k })] (o :: σ) H' s' ∧ tn i s'.heap ∧ (∀ b ∈ fp, H' b = none) ∧ Vals ys its.toList ∧ ys.length ≤ sizeLine ∧ W i n ys H')
      ?_ m0 ⟨0, none, H2, [], #[], 0, ?_, T.keep _ _ _ st2 fun b _ o e => old b o e, fun b hb => (f2 b hb).1, .nil, Nat.zero_le _, w0⟩
    · rintro n s3 ⟨i, o, H3, ys, its, k, I3, st3, fr3, vs3, z3, w3⟩
      have pD : ∀ p ∈ [(s2.heap.objs.size, ({ cls := .type "list", data := .seq its k } : Obj))], p.1 ∉ fp := fun p hp => by
        have e : p = _ := List.mem_singleton.mp hp
        subst e; exact Dfp
      rcases turn i n ys H3 w3 with ⟨stop, qn⟩ | ⟨go, hz, N, hN', step⟩
      · refine wpAny_mono (T.done (X.comp M scope x G.objs.size s2 H2 fp) rfl rfl rfl hc i _ s3 (o :: σ) H3 (fun _ _ => False) I3 (ptop fr3 pD) st3 stop) (fun r s4 ⟨hr, I4⟩ => ?_) fun _ _ f => f
        subst hr
        obtain ⟨m4, hn4, _⟩ := I4.loc
        obtain ⟨eD, nD, _⟩ := I4.pin _ (List.mem_singleton.mpr rfl)
        have nC : H3 G.objs.size = none := I4.free
        refine fin s2.heap.objs.size G.objs.size s4 (upd H3 s2.heap.objs.size (.lst ys)) (fun z => Nat.not_le.mpr I2.lt (z ▸ hCle)) (fun y c e z => ?_) (fun p hp z => ?_) (Nat.le_trans I2.sz hCle) (by rw [upd_ne (Ne.symm hDC)]; exact nC) ⟨m4, hn4⟩ (fun h' hs' => ?_) (qn _ nD)
        · obtain ⟨v, q⟩ := I2.cell y c e
          exact Nat.not_le.mpr q.lt (z ▸ hCle)
        · exact Nat.not_le.mpr (Heap.lt_size (I2.pin p hp).1) (z ▸ hCle)
        have eD' : h'.get? s2.heap.objs.size = some { cls := .type "list", data := .seq its k } := hs'.extBut _ _ hDC eD
        have stp : ∀ b o, s2.heap.get? b = some o → b ≠ G.objs.size ∧ b ≠ s2.heap.objs.size := fun b o e => below b (Heap.lt_size e)
        have un : Un (frs X.stack) fp H2 (upd H3 s2.heap.objs.size (.lst ys)) s2.heap h' := by
          have B := I4.base
          refine ⟨fun b o e n1 n2 n3 => hs'.extBut _ _ (stp b o e).1 (B.keep b o e n1 n2 n3), fun b o e n1 n2 n3 => ?_, fun b o e n1 n3 => ?_, fun b o e n3 => ?_, fun b xs e => ?_, fun b o u e => ?_, fun b ps e => ?_⟩
          · obtain ⟨sl, q⟩ := B.slot b o e n1 n2 n3
            exact ⟨sl, hs'.extBut _ _ (stp b o e).1 q⟩
          · rw [upd_ne (stp b o e).2]; exact B.free b o e n1 n3
          · obtain ⟨o', q⟩ := B.there b o e n3
            exact ⟨o', hs'.extBut _ _ (stp b o e).1 q⟩
          · have q := B.tups b xs e
            rw [upd_ne (ne_of_none q nD)]; exact q
          · have q := B.frzs b o u e
            rw [upd_ne (ne_of_none q nD)]; exact q
          · obtain ⟨more, q⟩ := B.tbls b ps e
            exact ⟨more, by rw [upd_ne (ne_of_none q nD)]; exact q⟩
        have hok : HOk X.prog X.w (upd H3 s2.heap.objs.size (.lst ys)) h' := fun b u e => by
          by_cases hb : b = s2.heap.objs.size
          · subst hb
            rw [upd_same] at e
            cases e
            exact ⟨z3, its.toList, k, vs3, by simpa using eD'⟩
          · rw [upd_ne hb] at e
            refine (I4.hok b u e).stay (fun c v hc' q => hs'.extBut _ _ (fun z => ?_) q) (fun c q => by rw [upd_ne (ne_of_none q nD)]; exact q) fun c xs q => by rw [upd_ne (ne_of_none q nD)]; exact q
            rcases hc' with r | r
            · rw [r] at z; rw [z, nC] at e; cases e
            · rw [z, nC] at r; cases r
        refine I2.call' (s' := { s4 with heap := h' }) I4.os un hok I4.bare (fun b hb => ?_)
        obtain ⟨f0, f1, f2', f3, f4, f5⟩ := f2 b hb
        exact ⟨f3, f1, f4, f5⟩
      · refine wpAny_mono (T.item (X.comp M scope x G.objs.size s2 H2 fp) rfl rfl rfl hc i _ s3 (o :: σ) H3 (fun _ _ => False) I3 (ptop fr3 pD) st3 go) (fun r s4 ⟨u, hr, h4⟩ => ?_) fun _ _ f => f
        subst hr
        refine wpAny_mono h4 (fun _ s5 ⟨v5, H5, I5, r5, y5, st5, fr5⟩ => ?_) fun _ _ f => f
        have I5' := I5.pinned (ptop fr5 pD) (T.obj _ _ st5)
        have hnd : (X.comp M scope x G.objs.size s2 H2 fp).N.Nodup := List.nodup_cons.mpr ⟨hx, hN⟩
        have hloc : (relabel scope X.env).names.lookup x = some .local := lookup_relabel_local S.own
        refine wpAny_mono (pg_name (X := X.comp M scope x G.objs.size s2 H2 fp) (i := 0) (pos := px) hnd rfl (.inl hloc) (.inr hloc) _ s5 (o :: σ) H5 v5 u (fun σ6 H6 => σ6 = some v5 :: σ ∧ H6 = H5) I5' r5 ⟨rfl, rfl⟩) (fun _ s6 ⟨σ6, H6, I6, e6, e6'⟩ => ?_) fun _ _ f => f
        subst e6 e6'
        have later : ∀ {σ7 : St} {H7 : Hp} {s7 : Shared}, Inv (X.comp M scope x G.objs.size s2 H2 fp) ([(s2.heap.objs.size, { cls := .type "list", data := .seq its k })] ++ pinsAt fp s5.heap) σ7 H7 s7 → tn (i + 1) s7.heap ∧ (∀ b ∈ fp, H7 b = none) := fun {σ7 H7 s7} I7 =>
          ⟨T.keep _ _ _ st5 fun b hb o e => (I7.pin (b, o) (List.mem_append_right _ (List.mem_append_right _ (mem_pinsAt hb e)))).1, fun b hb => by
            obtain ⟨o, e, d⟩ := T.obj _ _ st5 b hb
            exact (I7.pin (b, o) (List.mem_append_right _ (List.mem_append_right _ (mem_pinsAt hb e)))).2.1⟩
        refine wpAny_mono (ht _ _ _ _ _ s6 (some v5 :: σ) H6 _ I6 (step v5 H6 y5)) (fun ok s7 ⟨H7, I7, q7⟩ => ?_) fun _ _ f => f
        cases ok with
        | false =>
          obtain ⟨m', hm, w7⟩ := hN' _ _ q7
          exact ⟨m', hm, i + 1, some v5, H7, ys, its, k, I7.unpinned, (later I7).1, (later I7).2, vs3, z3, w7⟩
        | true =>
          refine wpAny_mono (he _ _ _ _ _ s7 (some v5 :: σ) H7 _ I7 q7) (fun uy s8 ⟨y8, H8, I8, r8, q8⟩ => ?_) fun _ _ f => f
          obtain ⟨m', hm, w8⟩ := hN' _ _ q8
          obtain ⟨eD, nD, _⟩ := I8.pin (s2.heap.objs.size, { cls := .type "list", data := .seq its k }) (List.mem_append_right _ (List.mem_append_left _ (List.mem_singleton.mpr rfl)))
          have hsz : its.size ≤ sizeLine := by
            have := vs3.length
            have e2 : its.toList.length = its.size := by simp
            omega
          refine wpAny_list_append_plain (hsz := hsz) ⟨k, eD⟩ fun h9 pl9 sb9 => ?_
          obtain ⟨k9, e9⟩ := pl9
          obtain ⟨st8, fr8⟩ := later I8
          have I8' : Inv (X.comp M scope x G.objs.size s2 H2 fp) [] (some v5 :: σ) H8 s8 := I8.pins_of fun p hp => nomatch hp
          have I9 : Inv (X.comp M scope x G.objs.size s2 H2 fp) [] (some v5 :: σ) H8 { s8 with heap := h9 } :=
            I8'.turned (t' := s8.toks) (fun b o hb e => sb9.extBut b o hb e) nD hDC (.inr (Nat.le_refl _)) (fun y c e z => by have := ctop y c e; rw [z] at this; exact Nat.lt_irrefl _ this) fun p hp => nomatch hp
          refine ⟨m', hm, i + 1, some v5, H8, ys ++ [y8], its.push uy, k9, I9.pins_of fun p hp => ?_, T.keep _ _ _ st8 fun b hb o e => sb9.extBut b o (fun z => Dfp (z ▸ hb)) e, fr8, ?_, ?_, w8⟩
          · have e : p = _ := List.mem_singleton.mp hp
            subst e
            exact ⟨e9, nD, hDC, hD, fun v z => by cases z⟩
          · rw [Array.toList_push]
            exact vs3.append (.cons r8 .nil)
          · rw [List.length_append, List.length_singleton]; omega
    · refine (IY t1).pins_of fun p hp => ?_
      have e : p = _ := List.mem_singleton.mp hp
      subst e
      exact ⟨hacc, I2.hok.fresh (Nat.le_refl _), hDC, hD, fun v z => by cases z⟩
  exact codeAny_compStart_list (loop _) (T.self _ 0 _ _ _ (T.keep _ _ _ st2 fun b _ o e => old b o e) (loop _))
theorem pe_comp {sc : Scope} (hsc : X.env.scope = sc) (S : CpScope sc x scope) (hx : x ∉ X.N) (h0 : (".0" : Str) ∉ X.N) (hN : X.N.Nodup) (hc : X.calm = true) (hi : PI X (.Name x px) iter wi)
    (ht : ∀ C s H ex, PIfs (X.comp X.N scope x C s H ex) ifs tt) (he : ∀ C s H ex, PE (X.comp X.N scope x C s H ex) elt te) (hs : ∀ v, foldedSetIterable iter X.env v = pure v := by intro _; rfl) :
    PE X (.ListComp elt [⟨.Name x px, iter, ifs, 0⟩] scope pos) (tComp wi tt te) := by
  intro pins s σ H Q I h
  rw [eval_ListComp]
  exact comp_core (use := none) (M := X.N) hsc S hx h0 hN rfl (fun _ _ e => .inl e) hc hi ht he I h (fun D C s4 H4 _ _ _ _ _ hn inv q => let ⟨m, hn⟩ := hn; ⟨m, hn, fun h' hs' => ⟨.ref D, H4, inv h' hs', rfl, q⟩⟩) hs
theorem zip_or {scope : Scope} : ∀ {M N : List Str}, (M.zip N).all (fun p => p.1 == p.2 || (scope.names.lookup p.1).isNone) = true → M.length = N.length → ∀ (j : Nat) y, M[j]? = some y → N[j]? = some y ∨ scope.names.lookup y = none
  | [], _, _, _, j, y, e => by simp at e
  | _ :: _, [], _, hl, _, _, _ => by cases hl
  | m :: M, n :: N, h, hl, 0, y, e => by
    have e' : m = y := Option.some.inj e
    subst e'
    rw [List.zip_cons_cons, List.all_cons, Bool.and_eq_true, Bool.or_eq_true] at h
    rcases h.1 with z | z
    · exact .inl (by rw [show n = m from (eq_of_beq z).symm]; rfl)
    · exact .inr (Option.isNone_iff_eq_none.mp z)
  | m :: M, n :: N, h, hl, j + 1, y, e => by
    rw [List.zip_cons_cons, List.all_cons, Bool.and_eq_true] at h
    exact zip_or h.2 (Nat.succ.inj hl) j y e
theorem pe_compS {sc : Scope} (M N0 : List Str) (hN0 : X.N = N0) (hsc : X.env.scope = sc) (S : CpScope sc x scope) (hx : x ∉ M) (h0 : (".0" : Str) ∉ M) (hN : M.Nodup) (hlen : M.length = N0.length) (hM : (M.zip N0).all (fun p => p.1 == p.2 || (scope.names.lookup p.1).isNone) = true) (hc : X.calm = true) (hi : PI X (.Name x px) iter wi)
    (ht : ∀ C s H ex, PIfs (X.comp M scope x C s H ex) ifs tt) (he : ∀ C s H ex, PE (X.comp M scope x C s H ex) elt te) (hs : ∀ v, foldedSetIterable iter X.env v = pure v := by intro _; rfl) :
    PE X (.ListComp elt [⟨.Name x px, iter, ifs, 0⟩] scope pos) (tComp wi tt te) := by
  subst hN0
  intro pins s σ H Q I h
  rw [eval_ListComp]
  exact comp_core (use := none) (M := M) hsc S hx h0 hN hlen (zip_or hM hlen) hc hi ht he I h (fun D C s4 H4 _ _ _ _ _ hn inv q => let ⟨m, hn⟩ := hn; ⟨m, hn, fun h' hs' => ⟨.ref D, H4, inv h' hs', rfl, q⟩⟩) hs
/-- name = [.. for ..] -/
theorem ps_setC {sc : Scope} {i : Nat} {y : Str} {py spos : Pos} (hi' : X.N[i]? = some y) (hy : Loc X.env.scope y) (hsc : X.env.scope = sc) (S : CpScope sc x scope) (hx : x ∉ X.N) (h0 : (".0" : Str) ∉ X.N) (hN : X.N.Nodup) (hc : X.calm = true) (hi : PI X (.Name x px) iter wi)
    (ht : ∀ C s H ex, PIfs (X.comp X.N scope x C s H ex) ifs tt) (he : ∀ C s H ex, PE (X.comp X.N scope x C s H ex) elt te) (hs : ∀ v, foldedSetIterable iter X.env v = pure v := by intro _; rfl)
    (hsw : swapsWith (.ListComp elt [⟨.Name x px, iter, ifs, 0⟩] scope pos) (some (.Name y py)) spos.line X.env = pure true := by rfl)
    (hf : X.fn y = true ∨ X.env.scope.names.lookup y = some .local := by first | exact .inl rfl | exact .inr rfl | assumption) :
    PS X (.Assign [.Name y py] (.ListComp elt [⟨.Name x px, iter, ifs, 0⟩] scope pos) spos) (tAsg (tComp wi tt te) (gName i)) := by
  intro pins s σ H D I h
  rw [exec_Assign_Name_used _ _ _ _ hsw]
  refine wpAny_bind (wpAny_standAt (wpAny_bind ?_))
  show wpAny _ X.A (do let _ ← comprehension (.ListComp elt [⟨.Name x px, iter, ifs, 0⟩] scope pos) scope X.env _ (newList []) false (eval iter X.env) (some (assign (.Name y py) X.env))) _ _ s
  refine wpAny_bind (wpAny_mono (comp_core (use := some (assign (.Name y py) X.env)) (QQ := fun _ s' => SP X pins D .next s') (M := X.N) hsc S hx h0 hN rfl (fun _ _ e => .inl e) hc hi ht he I h (fun D' C s4 H4 c1 c2 c3 c4 c5 hn inv q => ?_) hs) (fun _ s' hq => wpAny_pure (wpAny_pure hq)) fun _ _ e => e)
  obtain ⟨m, hn⟩ := hn
  show wpAny _ X.A (assign (.Name y py) X.env (.ref D')) _ _ s4
  refine wpAny_assign_Name (store_ok2 (v := .ref D') (inv s4.heap (.refl ..)) hN hi' hy rfl (fun s5 I5 ⟨a, sb, ha⟩ => ?_) hf)
  have hCa : C ≠ a := by
    rcases ha with r | r
    · rw [r]; exact c1
    · exact fun z => c2 _ _ r z.symm
  exact ⟨m, hn.sameBut sb hCa, fun h' hs' => ⟨_, H4, I5.turned (t' := s5.toks) (fun b o hb e => hs'.extBut b o hb e) c5 c1 (.inr c4) c2 c3, q⟩⟩
end
/-- over a range -/
theorem comp_range {n : Nat} {tt : TT} {te : TE} {Q : VK} {σ : St} {H : Hp} (Pv : Nat → List V → Hp → Prop) (hn : n ≤ 1000) (h0 : Pv 0 [] H) (hl : ∀ i ys H, Pv i ys H → ys.length ≤ i)
    (hs : ∀ i ys H, i < n → Pv i ys H → tt (some (.int (i : Int)) :: σ) H fun b H2 => if b = true then te (some (.int (i : Int)) :: σ) H2 fun y H3 => Pv (i + 1) (ys ++ [y]) H3 else Pv (i + 1) ys H2)
    (hd : ∀ ys H, Pv n ys H → ∀ p, H p = none → Q (.ref p) (upd H p (.lst ys))) :
    ∃ W : Nat → Nat → List V → Hp → Prop, (∃ m, W 0 m [] H) ∧ ∀ i m ys H, W i m ys H → ((Itr 0 n).stop i H ∧ ∀ p, H p = none → Q (.ref p) (upd H p (.lst ys))) ∨
      ((Itr 0 n).go i H ∧ ys.length < sizeLine ∧ ∃ N : List V → Hp → Prop, (∀ ys' H', N ys' H' → ∃ m', m' < m ∧ W (i + 1) m' ys' H') ∧
        ∀ x H', (Itr 0 n).yld i H x H' → tt (some x :: σ) H' fun b H2 => if b = true then te (some x :: σ) H2 fun y H3 => N (ys ++ [y]) H3 else N ys H2) := by
  refine ⟨fun i m ys H => m = n - i ∧ i ≤ n ∧ Pv i ys H, ⟨n, by simp, Nat.zero_le _, h0⟩, ?_⟩
  rintro i m ys H ⟨rfl, hi, p⟩
  by_cases hlt : i < n
  · refine .inr ⟨hlt, small1000 (by have := hl i ys H p; omega), Pv (i + 1), fun ys' H' p' => ⟨n - (i + 1), by omega, rfl, hlt, p'⟩, fun x H' y => ?_⟩
    obtain ⟨e, y⟩ := y
    subst e y
    rw [Int.zero_add]
    exact hs i ys _ hlt p
  · have e : i = n := by omega
    subst e
    exact .inl ⟨Nat.le_refl _, hd ys H p⟩
theorem st_comp_range {ta : TE} {n : Nat} {tt : TT} {te : TE} {Q : VK} {σ : St} {H : Hp} (hn : n ≤ 1000) (e : ∀ P : V → Hp → Prop, P (.int (n : Int)) H → ta σ H P) (Pv : Nat → List V → Hp → Prop) (h0 : Pv 0 [] H) (hl : ∀ i ys H, Pv i ys H → ys.length ≤ i)
    (hs : ∀ i ys H, i < n → Pv i ys H → tt (some (.int (i : Int)) :: σ) H fun b H2 => if b = true then te (some (.int (i : Int)) :: σ) H2 fun y H3 => Pv (i + 1) (ys ++ [y]) H3 else Pv (i + 1) ys H2)
    (hd : ∀ ys H, Pv n ys H → ∀ p, H p = none → Q (.ref p) (upd H p (.lst ys))) : tComp (iRng1 (tCons ta tNil)) tt te σ H Q :=
  e _ ⟨(n : Int), rfl, by omega, by omega, comp_range Pv hn h0 hl hs hd⟩
/-- over a tuple or a list that the block leaves as it is -/
theorem comp_tup {K : PySem.W.Frag} {a : Addr} {xs : List V} {tt : TT} {te : TE} {Q : VK} {σ : St} {H : Hp} (Pv : Nat → List V → Hp → Prop) (hn : xs.length ≤ 1000) (h0 : Pv 0 [] H) (hl : ∀ i ys H, Pv i ys H → ys.length ≤ i) (hk : ∀ i ys H, Pv i ys H → SqT K H a xs)
    (hs : ∀ i x ys H, xs[i]? = some x → Pv i ys H → tt (some x :: σ) H fun b H2 => if b = true then te (some x :: σ) H2 fun y H3 => Pv (i + 1) (ys ++ [y]) H3 else Pv (i + 1) ys H2)
    (hd : ∀ ys H, Pv xs.length ys H → ∀ p, H p = none → Q (.ref p) (upd H p (.lst ys))) :
    ∃ W : Nat → Nat → List V → Hp → Prop, (∃ m, W 0 m [] H) ∧ ∀ i m ys H, W i m ys H → ((Itt K a).stop i H ∧ ∀ p, H p = none → Q (.ref p) (upd H p (.lst ys))) ∨
      ((Itt K a).go i H ∧ ys.length < sizeLine ∧ ∃ N : List V → Hp → Prop, (∀ ys' H', N ys' H' → ∃ m', m' < m ∧ W (i + 1) m' ys' H') ∧
        ∀ x H', (Itt K a).yld i H x H' → tt (some x :: σ) H' fun b H2 => if b = true then te (some x :: σ) H2 fun y H3 => N (ys ++ [y]) H3 else N ys H2) := by
  refine ⟨fun i m ys H => m = xs.length - i ∧ i ≤ xs.length ∧ Pv i ys H, ⟨xs.length, by simp, Nat.zero_le _, h0⟩, ?_⟩
  rintro i m ys H ⟨rfl, hi, p⟩
  by_cases hlt : i < xs.length
  · refine .inr ⟨⟨xs, xs[i], hk i ys H p, by simp [hlt]⟩, small1000 (by have := hl i ys H p; omega), Pv (i + 1), fun ys' H' p' => ⟨xs.length - (i + 1), by omega, rfl, hlt, p'⟩, fun x H' y => ?_⟩
    obtain ⟨e, y⟩ := y
    subst e
    exact hs i x ys _ (y xs (hk i ys _ p)) p
  · have e : i = xs.length := by omega
    subst e
    exact .inl ⟨⟨xs, hk _ ys H p, Nat.le_refl _⟩, hd ys H p⟩
/-! int.bit_length -/
def rBitLen : V → List V → Hp → VK → Prop := fun x vs H Q => ∃ i, x = .int i ∧ vs = [] ∧ Q (.int (Builtin.Int.intBits i : Nat)) H
end L2

/-! Own mathematics: the places of a number's bits. -/
namespace Tw
/-- the places below k at which n has a 1, rising -/
def plc (n : Nat) : Nat → List Nat
  | 0 => []
  | k + 1 => if n.testBit k then plc n k ++ [k] else plc n k
/-- what the places are worth together -/
def wor : List Nat → Nat
  | [] => 0
  | k :: r => 2 ^ k + wor r
theorem take_succ_get {α : Type} {xs : List α} {i : Nat} {x : α} (h : xs[i]? = some x) : xs.take (i + 1) = xs.take i ++ [x] := by
  rw [List.take_add_one, h]; rfl
end Tw

set_option Elab.async false
set_option linter.all false
set_option maxRecDepth 100000
namespace L2
open PySem PySem.Spec PyProof.Rows
/-! Steps of readings, second part. -/
def rLen (K : PySem.W.Frag) : List V → Hp → VK → Prop := fun xs H Q => (∃ p ys, xs = [.ref p] ∧ (SqL K H p ys ∨ SqT K H p ys) ∧ Q (.int (ys.length : Nat)) H) ∨ ∃ z, xs = [.str z] ∧ z.length ≤ sizeLine ∧ Q (.int (z.length : Nat)) H
theorem call_lenQ {X : Cx} : CallR X (.builtin "len") (rLen X.K) := call_len_seq.or call_len_str
section
variable {K : PySem.W.Frag} {H : Hp} {Q : VK} {D : Ends} {σ : St} {te : TE} {tA : TA} {g : TG} {tb : TS} {v w y : V} {a b l : Addr} {i j : Int} {xs ys zs : List V} {n : Nat} {T : String} {r : V → List V → Hp → VK → Prop}
def sForL (K : PySem.W.Frag) (g : TG) (tb : TS) (D : Ends) (σ : St) : V → Hp → Prop := fun x H => ∃ a, x = .ref a ∧ (∃ xs, SqL K H a xs) ∧ ∃ W : Nat → Nat → St → Hp → Prop, (∃ m, W 0 m σ H) ∧ ∀ i m σ H, W i m σ H →
  ((Itl K a).stop i H ∧ D.nx σ H) ∨ ((Itl K a).go i H ∧ ∃ N : St → Hp → Prop, (∀ σ' H', N σ' H' → ∃ m', m' < m ∧ W (i + 1) m' σ' H') ∧ ∀ x H', (Itl K a).yld i H x H' → g x σ H' fun σ2 H2 => tb { D with nx := N, ct := N, bk := D.nx } σ2 H2)
theorem st_forE {tl : TE} (h : tl σ H (sForL K g tb D σ)) : tFor (iList K tl) g tb D σ H := h
theorem st_forAt (s : SqL K H a xs) (Pv : Nat → St → Hp → Prop) (h0 : Pv 0 σ H) (hl : ∀ i σ H, i ≤ xs.length → Pv i σ H → SqL K H a xs)
    (hs : ∀ i x σ H, xs[i]? = some x → Pv i σ H → g x σ H fun σ2 H2 => tb { D with nx := Pv (i + 1), ct := Pv (i + 1), bk := D.nx } σ2 H2) (hd : ∀ σ H, Pv xs.length σ H → D.nx σ H) : sForL K g tb D σ (.ref a) H :=
  ⟨a, rfl, ⟨xs, s⟩, for_list Pv h0 hl hs hd⟩
theorem st_cat (h1 : H l = some (.lst xs)) (h2 : H b = some (.lst zs)) (hz : xs.length + zs.length ≤ 1000) (q : ∀ p, H p = none → Q (.ref p) (upd H p (.lst (xs ++ zs)))) : rCat (.ref l) (.ref b) H Q :=
  ⟨l, b, xs, zs, rfl, rfl, h1, h2, Nat.le_of_lt (small1000 hz), q⟩
theorem st_bm0 (h : te σ H fun x H1 => tyV K T x H1 ∧ r x [] H1 Q) : tBM0 K T r te σ H Q := h
theorem st_bm (h : te σ H fun x H1 => tyV K T x H1 ∧ tA σ H1 fun xs H2 => r x xs H2 Q) : tBM K T r te tA σ H Q := h
theorem st_tyS {x : Str} {P : Prop} (h : P) : tyV K "str" (.str x) H ∧ P := ⟨rfl, h⟩
theorem st_lenL (s : SqL K H a xs) (h : Q (.int (xs.length : Nat)) H) : rLen K [.ref a] H Q := .inl ⟨a, xs, rfl, .inl s, h⟩
theorem st_lenT (s : SqT K H a xs) (h : Q (.int (xs.length : Nat)) H) : rLen K [.ref a] H Q := .inl ⟨a, xs, rfl, .inr s, h⟩
theorem st_lenS {z : Str} (s : z.length ≤ 1000) (h : Q (.int (z.length : Nat)) H) : rLen K [.str z] H Q := .inr ⟨z, rfl, Nat.le_of_lt (small1000 s), h⟩
end
theorem kit_NoneType_int {K : PySem.W.Frag} : PySem.W.kitOne K (.type "NoneType") (.type "int") = some false := by kernel_rfl
theorem kit_NoneType_bool {K : PySem.W.Frag} : PySem.W.kitOne K (.type "NoneType") (.type "bool") = some false := by kernel_rfl
theorem kit_NoneType_str {K : PySem.W.Frag} : PySem.W.kitOne K (.type "NoneType") (.type "str") = some false := by kernel_rfl
theorem kit_bool_int {K : PySem.W.Frag} : PySem.W.kitOne K (.type "bool") (.type "int") = some true := by kernel_rfl
theorem kit_bool_bool {K : PySem.W.Frag} : PySem.W.kitOne K (.type "bool") (.type "bool") = some true := by kernel_rfl
theorem kit_int_int {K : PySem.W.Frag} : PySem.W.kitOne K (.type "int") (.type "int") = some true := by kernel_rfl
theorem kit_int_bool {K : PySem.W.Frag} : PySem.W.kitOne K (.type "int") (.type "bool") = some false := by kernel_rfl
theorem kit_int_str {K : PySem.W.Frag} : PySem.W.kitOne K (.type "int") (.type "str") = some false := by kernel_rfl
theorem kit_str_int {K : PySem.W.Frag} : PySem.W.kitOne K (.type "str") (.type "int") = some false := by kernel_rfl
theorem kit_str_bool {K : PySem.W.Frag} : PySem.W.kitOne K (.type "str") (.type "bool") = some false := by kernel_rfl
theorem kit_str_str {K : PySem.W.Frag} : PySem.W.kitOne K (.type "str") (.type "str") = some true := by kernel_rfl
theorem kit_list_str {K : PySem.W.Frag} : PySem.W.kitOne K (.type "list") (.type "str") = some false := by kernel_rfl
theorem kit_list_list {K : PySem.W.Frag} : PySem.W.kitOne K (.type "list") (.type "list") = some true := by kernel_rfl
theorem kit_tuple_tuple {K : PySem.W.Frag} : PySem.W.kitOne K (.type "tuple") (.type "tuple") = some true := by kernel_rfl
end L2

set_option Elab.async false
set_option linter.all false
set_option maxRecDepth 100000
namespace Tw
open PySem
/-- what a run comes to is one thing -/
theorem run_one {M : Model} {Γ : Ctx} {p : Pos} {t : Sem Fin} {fs : List Frame} {s s' : Shared} {e : End} (h : Runs M Γ p t fs s e s') : ∀ {e2 : End} {s2 : Shared}, Runs M Γ p t fs s e2 s2 → e = e2 ∧ s' = s2 := by
  induction h with
  | done => intro e2 s2 h2; cases h2; exact ⟨rfl, rfl⟩
  | raise => intro e2 s2 h2; cases h2; exact ⟨rfl, rfl⟩
  | yield => intro e2 s2 h2; cases h2; exact ⟨rfl, rfl⟩
  | again _ _ ih => intro e2 s2 h2; cases h2 with | again _ h => exact ih h
  | rule _ ih => intro e2 s2 h2; cases h2 with | rule h => exact ih h
  | «at» _ ih => intro e2 s2 h2; cases h2 with | «at» h => exact ih h
  | load g _ ih =>
    intro e2 s2 h2
    cases h2 with
    | load g2 h =>
      rw [g] at g2
      cases g2
      exact ih h
  | update _ _ ih => intro e2 s2 h2; cases h2 with | update _ h => exact ih h
  | loadIfAlive _ ih => intro e2 s2 h2; cases h2 with | loadIfAlive h => exact ih h
  | point _ ih => intro e2 s2 h2; cases h2 with | point h => exact ih h
  | alloc _ ih => intro e2 s2 h2; cases h2 with | alloc h => exact ih h
  | fresh _ ih => intro e2 s2 h2; cases h2 with | fresh h => exact ih h
  | ask _ ih => intro e2 s2 h2; cases h2 with | ask h => exact ih h
  | choose _ _ ih => intro e2 s2 h2; cases h2 with | choose _ h => exact ih h
  | os _ ih => intro e2 s2 h2; cases h2 with | os h => exact ih h
  | handled _ ih => intro e2 s2 h2; cases h2 with | handled h => exact ih h
  | genState g _ ih =>
    intro e2 s2 h2
    cases h2 with
    | genState g2 h =>
      rw [g] at g2
      cases g2
      exact ih h
  | stack _ ih => intro e2 s2 h2; cases h2 with | stack h => exact ih h
  | thread _ ih => intro e2 s2 h2; cases h2 with | thread h => exact ih h
  | newGen _ ih => intro e2 s2 h2; cases h2 with | newGen h => exact ih h
  | call _ _ ih1 ih2 =>
    intro e2 s2 h2
    cases h2 with
    | call a b =>
      obtain ⟨x, y⟩ := ih1 a
      cases x
      subst y
      exact ih2 b
    | callSusp a => exact nomatch (ih1 a).1
  | callSusp _ ih1 =>
    intro e2 s2 h2
    cases h2 with
    | call a b => exact nomatch (ih1 a).1
    | callSusp a =>
      obtain ⟨x, y⟩ := ih1 a
      cases x
      exact ⟨rfl, y⟩
  | resumeFresh g _ _ _ ih1 ih2 =>
    intro e2 s2 h2
    cases h2 with
    | resumeFresh g2 a _ b =>
      rw [g] at g2
      cases g2
      obtain ⟨x, y⟩ := ih1 a
      subst x y
      exact ih2 b
    | resumeSuspended g2 a _ b => rw [g] at g2; cases g2
    | resumeJustStarted g2 z b => exact (z rfl).elim
    | resumeRunning g2 b => rw [g] at g2; cases g2
    | resumeFinished g2 b => rw [g] at g2; cases g2
  | resumeSuspended g _ _ _ ih1 ih2 =>
    intro e2 s2 h2
    cases h2 with
    | resumeSuspended g2 a _ b =>
      rw [g] at g2
      cases g2
      obtain ⟨x, y⟩ := ih1 a
      subst x y
      exact ih2 b
    | resumeFresh g2 a _ b => rw [g] at g2; cases g2
    | resumeJustStarted g2 z b => rw [g] at g2; cases g2
    | resumeThrowFresh g2 b => rw [g] at g2; cases g2
    | resumeRunning g2 b => rw [g] at g2; cases g2
    | resumeFinished g2 b => rw [g] at g2; cases g2
  | resumeJustStarted g z _ ih =>
    intro e2 s2 h2
    cases h2 with
    | resumeFresh g2 a _ b => exact (z rfl).elim
    | resumeSuspended g2 a _ b => rw [g] at g2; cases g2
    | resumeJustStarted g2 z b => exact ih b
    | resumeRunning g2 b => rw [g] at g2; cases g2
    | resumeFinished g2 b => rw [g] at g2; cases g2
  | resumeThrowFresh g _ ih =>
    intro e2 s2 h2
    cases h2 with
    | resumeSuspended g2 a _ b => rw [g] at g2; cases g2
    | resumeThrowFresh g2 b => exact ih b
    | resumeRunning g2 b => rw [g] at g2; cases g2
    | resumeFinished g2 b => rw [g] at g2; cases g2
  | resumeRunning g _ ih =>
    intro e2 s2 h2
    cases h2 with
    | resumeFresh g2 a _ b => rw [g] at g2; cases g2
    | resumeSuspended g2 a _ b => rw [g] at g2; cases g2
    | resumeJustStarted g2 z b => rw [g] at g2; cases g2
    | resumeThrowFresh g2 b => rw [g] at g2; cases g2
    | resumeRunning g2 b => exact ih b
    | resumeFinished g2 b => rw [g] at g2; cases g2
  | resumeFinished g _ ih =>
    intro e2 s2 h2
    cases h2 with
    | resumeFresh g2 a _ b => rw [g] at g2; cases g2
    | resumeSuspended g2 a _ b => rw [g] at g2; cases g2
    | resumeJustStarted g2 z b => rw [g] at g2; cases g2
    | resumeThrowFresh g2 b => rw [g] at g2; cases g2
    | resumeRunning g2 b => rw [g] at g2; cases g2
    | resumeFinished g2 b => exact ih b
  | segRet _ _ ih1 ih2 =>
    intro e2 s2 h2
    cases h2 with
    | segRet a b =>
      obtain ⟨x, y⟩ := ih1 a
      cases x
      subst y
      exact ih2 b
    | segSuspOut z a => exact nomatch (ih1 a).1
    | segSuspGen z a _ b => exact nomatch (ih1 a).1
  | segGen _ _ ih1 ih2 =>
    intro e2 s2 h2
    cases h2 with
    | segGen a b =>
      obtain ⟨x, y⟩ := ih1 a
      cases x
      subst y
      exact ih2 b
    | segSuspOut z a => exact nomatch (ih1 a).1
    | segSuspGen z a _ b => exact nomatch (ih1 a).1
  | segSuspOut z _ ih1 =>
    intro e2 s2 h2
    cases h2 with
    | segRet a b => exact nomatch (ih1 a).1
    | segGen a b => exact nomatch (ih1 a).1
    | segSuspOut z a =>
      obtain ⟨x, y⟩ := ih1 a
      cases x
      exact ⟨rfl, y⟩
    | segSuspGen z2 a _ b => rw [z] at z2; cases z2
  | segSuspGen z _ _ _ ih1 ih2 =>
    intro e2 s2 h2
    cases h2 with
    | segRet a b => exact nomatch (ih1 a).1
    | segGen a b => exact nomatch (ih1 a).1
    | segSuspOut z2 a => rw [z] at z2; cases z2
    | segSuspGen z2 a _ b =>
      rw [z] at z2
      cases z2
      obtain ⟨x, y⟩ := ih1 a
      cases x
      subst y
      exact ih2 b
theorem wakes_one {M : Model} {Γ : Ctx} {p : Pos} {g : Nat} {r : Resume} {s : Shared} {a b : GenResult} {x y : Shared} (h1 : Wakes M Γ p g r s a x) (h2 : Wakes M Γ p g r s b y) : a = b ∧ x = y := by
  unfold Wakes at h1 h2
  have two : ∀ {Γ' : Ctx} {p' : Pos} {t' : Sem Fin} {fs' : List Frame} {s' : Shared}, (∃ e₁ s₁, Runs M Γ' p' t' fs' s' e₁ s₁ ∧ e₁.quiet = true ∧ a = e₁.result ∧ x = s₁.setGen g e₁.genState) → (∃ e₁ s₁, Runs M Γ' p' t' fs' s' e₁ s₁ ∧ e₁.quiet = true ∧ b = e₁.result ∧ y = s₁.setGen g e₁.genState) → a = b ∧ x = y := by
    rintro Γ' p' t' fs' s' ⟨e1, s1, r1, _, k1, k2⟩ ⟨e2, s2, r2, _, k3, k4⟩
    obtain ⟨u, v⟩ := run_one r1 r2
    subst u v
    exact ⟨k1.trans k3.symm, k2.trans k4.symm⟩
  have one : ∀ {c : GenResult} {z : Shared}, (a = c ∧ x = z) → (b = c ∧ y = z) → a = b ∧ x = y := fun h1 h2 => ⟨h1.1.trans h2.1.symm, h1.2.trans h2.2.symm⟩
  cases hg : s.gens[g]? with
  | none => rw [hg] at h1; exact h1.elim
  | some st =>
    rw [hg] at h1 h2
    cases st with
    | fresh c =>
      cases r with
      | send v =>
        by_cases hv : v = .none
        · subst hv
          exact two h1 h2
        · dsimp only at h1 h2
          split at h1
          · rename_i e
            cases e
            exact (hv rfl).elim
          · split at h2
            · rename_i e
              cases e
              exact (hv rfl).elim
            · exact one h1 h2
            · rename_i e
              cases e
          · rename_i e
            cases e
      | throw v => exact one h1 h2
    | suspended k0 l0 c0 p0 fs cl => exact two h1 h2
    | running => exact one h1 h2
    | finished => exact one h1 h2
theorem wp_both {α : Type} {M : Model} {Γ : Ctx} {Q1 Q2 : α → Pos → Shared → Prop} {E1 E2 : Value → Pos → Shared → Prop} (t : Sem α) : ∀ {p : Pos} {s : Shared}, Sem.wp M Γ t Q1 E1 p s → Sem.wp M Γ t Q2 E2 p s → Sem.wp M Γ t (fun a p s => Q1 a p s ∧ Q2 a p s) (fun a p s => E1 a p s ∧ E2 a p s) p s := by
  induction t with
  | pure a => intro p s h1 h2; exact ⟨h1, h2⟩
  | raise a => intro p s h1 h2; exact ⟨h1, h2⟩
  | call c h g l k ih =>
    intro p s h1 h2
    obtain ⟨r, s', rn, q⟩ := h1
    obtain ⟨r2, s2, rn2, q2⟩ := h2
    obtain ⟨x, y⟩ := run_one rn rn2
    cases x
    subst y
    exact ⟨r, s', rn, ih r q q2⟩
  | resume g r l k ih =>
    intro p s h1 h2
    obtain ⟨a, s', rn, q⟩ := h1
    obtain ⟨b, s2, rn2, q2⟩ := h2
    obtain ⟨x, y⟩ := wakes_one rn rn2
    subst x y
    exact ⟨a, s', rn, ih a q q2⟩
  | load a q k ih =>
    intro p s h1 h2
    obtain ⟨o, e, q⟩ := h1
    obtain ⟨o2, e2, q2⟩ := h2
    rw [e] at e2
    cases e2
    exact ⟨o, e, ih o q q2⟩
  | genState g k ih =>
    intro p s h1 h2
    obtain ⟨o, e, q⟩ := h1
    obtain ⟨o2, e2, q2⟩ := h2
    rw [e] at e2
    cases e2
    exact ⟨o, e, ih _ q q2⟩
  | update a q f k ih => intro p s h1 h2; exact ⟨h1.1, ih _ h1.2 h2.2⟩
  | choose a n k ih => intro p s h1 h2; exact ⟨h1.1, ih _ h1.2 h2.2⟩
  | unsupported _ => intro p s h1 _; exact False.elim h1
  | finish _ => intro p s h1 _; exact False.elim h1
  | rule _ k ih => intro p s h1 h2; exact ih _ h1 h2
  | «at» _ k ih => intro p s h1 h2; exact ih _ h1 h2
  | loadIfAlive _ k ih => intro p s h1 h2; exact ih _ h1 h2
  | point _ k ih => intro p s h1 h2; exact ih _ h1 h2
  | alloc _ k ih => intro p s h1 h2; exact ih _ h1 h2
  | fresh k ih => intro p s h1 h2; exact ih _ h1 h2
  | ask k ih => intro p s h1 h2; exact ih _ h1 h2
  | os _ _ k ih => intro p s h1 h2; exact ih _ h1 h2
  | handled _ k ih => intro p s h1 h2; exact ih _ h1 h2
  | newGen _ k ih => intro p s h1 h2; exact ih _ h1 h2
  | stack k ih => intro p s h1 h2; exact ih _ h1 h2
  | thread k ih => intro p s h1 h2; exact ih _ h1 h2
  | _ => intro p s h1 _; exact False.elim h1
/-- two things shown of one piece are shown together -/
theorem wpAny_both {α : Type} {M : Model} {A : Around} {t : Sem α} {Q1 Q2 : α → Shared → Prop} {E1 E2 : Value → Shared → Prop} {s : Shared} (h1 : wpAny M A t Q1 E1 s) (h2 : wpAny M A t Q2 E2 s) : wpAny M A t (fun a s => Q1 a s ∧ Q2 a s) (fun a s => E1 a s ∧ E2 a s) s :=
  fun Γ p i => wp_both t (h1 Γ p i) (h2 Γ p i)
end Tw

set_option Elab.async false
set_option linter.all false
set_option maxRecDepth 100000
namespace Tw
open PySem PySem.Spec PyProof.Rows L2
/-! what stands in an exception beside its trace: it is raised behind no other -/
/-- the exception at e was raised while none was handled -/
def Alone (e : Addr) (h : Heap) : Prop := ∃ oe vs, h.get? e = some oe ∧ oe.data = .fields vs ∧ vs[2]? = some .none
section
variable {M : Model} {A : Around} {E : Value → Shared → Prop} {s : Shared} {e : Addr}
theorem Alone.put {h : Heap} {i : Nat} {x : Value} (k : Alone e h) (hi : i ≠ 2) : Alone e (h.update e (Obj.mapFields (·.setIfInBounds i x))) := by
  obtain ⟨oe, vs, he, hd, h2⟩ := k
  have d2 := Obj.data_mapFields hd (·.setIfInBounds i x)
  exact ⟨_, _, Heap.get?_update_self _ he (Obj.isFreed_of_fields d2), d2, by rw [Array.getElem?_setIfInBounds_ne hi]; exact h2⟩
theorem Alone.other {h : Heap} {b : Addr} {f : Obj → Obj} (k : Alone e h) (hb : b ≠ e) : Alone e (h.update b f) := by
  obtain ⟨oe, vs, he, hd, h2⟩ := k
  exact ⟨oe, vs, (Heap.get?_update_other _ _ hb).trans he, hd, h2⟩
theorem Alone.push {h : Heap} {o : Obj} (k : Alone e h) : Alone e (h.push o) := by
  obtain ⟨oe, vs, he, hd, h2⟩ := k
  exact ⟨oe, vs, Heap.get?_push_of_some _ he, hd, h2⟩
theorem Alone.frames {h h' : Heap} {base : Heap} {l : List Env} (k : Alone e h) (hl : h.FunFrames base l) (hs : Heap.SlotsOnly (l.filterMap (·.frame)) h h') : Alone e h' := by
  obtain ⟨oe, vs, he, hd, h2⟩ := k
  have hne : e ∉ l.filterMap (·.frame) := fun hm => by
    obtain ⟨_, o, ho, hnf⟩ := hl.mem hm
    rw [he] at ho
    cases ho
    exact hnf vs hd
  exact ⟨oe, vs, (hs.2.1 e hne).trans he, hd, h2⟩
/-- and its trace has an entry -/
def AloneT (e : Addr) (h : Heap) : Prop := Alone e h ∧ ∃ oe vs T oT ts, h.get? e = some oe ∧ oe.data = .fields vs ∧ vs[1]? = some (.ref T) ∧ T ≠ e ∧ h.get? T = some oT ∧ oT.data = .fields ts ∧ 3 < ts.size
/-- a new entry of the trace, laid behind head -/
theorem entry_alone {base : Heap} {env : Env} {outer : List Env} {L : Addr} {head : Value} {had : Bool} (hfr : A.frames = some (env :: outer)) (hf : env.frame = some L) (hl : s.heap.FunFrames base (env :: outer)) (k : Alone e s.heap) :
    wpAny M A (do let a ← frameOf env; let pl ← entryPlaceOf L had; let b ← EntryCells.newEntry head a .none (rawInt L) .none pl; setField (.ref e) 1 b) (fun _ s' => AloneT e s'.heap) E s := by
  refine wpAny_bind (wpAny_frameOf_fun hfr hl hf fun h1 s1 => ?_)
  have k1 := k.frames hl s1
  refine wpAny_bind (wpAny_entryPlaceOf fun pl hp => ?_)
  unfold EntryCells.newEntry newFields
  refine wpAny_bind (wpAny_newObj_type ?_ (hp.sizeOk5 _ _ _ _ _))
  have k2 := k1.push (o := { cls := .type "traceback", dict := none, data := .fields ([head, .ref L, .none, rawInt L, .none] ++ (if pl.isEmpty then List.replicate 6 Value.none else pl)).toArray })
  obtain ⟨_, _, he1, _, _⟩ := id k1
  have hne : h1.objs.size ≠ e := Nat.ne_of_gt (Heap.lt_size he1)
  obtain ⟨oe, vs, he, hd, h2⟩ := id k2
  have hz : 1 < vs.size := by
    have := (Array.getElem?_eq_some_iff.mp h2).1
    omega
  refine wpAny_setField he hd hz ⟨k2.put (by decide), _, _, h1.objs.size, _, _, Heap.get?_update_self _ he (Obj.isFreed_of_fields (Obj.data_mapFields hd _)), Obj.data_mapFields hd _, by simp [hz], hne, (Heap.get?_update_other _ _ (Ne.symm hne)).trans (Heap.get?_push_size h1 rfl), rfl, ?_⟩
  simp only [List.size_toArray, List.length_append, List.length_cons, List.length_nil]
  omega
theorem note_alone {base : Heap} {env : Env} {outer : List Env} {L : Addr} (hfr : A.frames = some (env :: outer)) (hf : env.frame = some L) (hl : s.heap.FunFrames base (env :: outer)) (k : AloneT e s.heap) :
    wpAny M A (noteFrame (.ref e) env) (fun _ s' => AloneT e s'.heap) E s := by
  obtain ⟨ka, oe, vs, T, oT, ts, he, hd, h1, hTe, hT, hdT, h3⟩ := id k
  unfold noteFrame
  simp only [hf]
  refine wpAny_bind (wpAny_field he hd h1 ?_)
  rw [if_pos (show (Value.ref T != Value.none) = true from by simp)]
  refine wpAny_bind (wpAny_field hT hdT (Array.getElem?_eq_some_iff.mpr ⟨h3, rfl⟩) ?_)
  by_cases c : (ts[3] == rawInt L) = true
  · rw [if_pos c]
    exact wpAny_pure k
  · rw [if_neg c]
    refine wpAny_bind (wpAny_setField hT hdT h3 ?_)
    refine entry_alone (s := { s with heap := _ }) hfr hf (hl.of_keeps fun b o hb hn => ⟨o, ?_, rfl⟩) (ka.other hTe)
    have : T ≠ b := fun z => by
      rw [← z, hT] at hb
      cases hb
      exact hn ts hdT
    exact (Heap.get?_update_other _ _ this).trans hb
theorem first_alone {base : Heap} {env : Env} {outer : List Env} {L : Addr} {oe : Obj} {vs : Array Value} (hfr : A.frames = some (env :: outer)) (hf : env.frame = some L) (hl : s.heap.FunFrames base (env :: outer)) (he : s.heap.get? e = some oe) (hd : oe.data = .fields vs) (h1 : vs[1]? = some .none) (k : Alone e s.heap) :
    wpAny M A (noteFrame (.ref e) env) (fun _ s' => AloneT e s'.heap) E s := by
  unfold noteFrame
  simp only [hf]
  refine wpAny_bind (wpAny_field he hd h1 ?_)
  rw [if_neg (by decide)]
  exact entry_alone hfr hf hl k
theorem flight_alone {f : Option Addr} (k : AloneT e s.heap) : wpAny M A (setFlight (.ref e) f) (fun _ s' => AloneT e s'.heap) E s := by
  obtain ⟨ka, oe, vs, T, oT, ts, he, hd, h1, hTe, hT, hdT, h3⟩ := id k
  unfold setFlight
  refine wpAny_bind (wpAny_field he hd h1 ?_)
  rw [if_pos (show (Value.ref T != Value.none) = true from by simp)]
  have d2 := Obj.data_mapFields hdT (·.setIfInBounds 3 (f.elim Value.none fun f => rawInt f))
  exact wpAny_setField hT hdT h3 ⟨ka.other hTe, oe, vs, T, _, _, (Heap.get?_update_other _ _ hTe).trans he, hd, h1, hTe, Heap.get?_update_self _ hT (Obj.isFreed_of_fields d2), d2, by simpa using h3⟩
theorem AloneT.but {h h' : Heap} {C : Addr} (k : AloneT e h) (sb : Heap.SameBut C h h') (hC : ∀ o vs, h.get? C = some o → o.data ≠ .fields vs) : AloneT e h' := by
  obtain ⟨⟨o1, v1, e1, d1, x1⟩, oe, vs, T, oT, ts, he, hd, h1, hTe, hT, hdT, h3⟩ := k
  exact ⟨⟨o1, v1, sb.extBut _ _ (fun z => hC o1 v1 (z ▸ e1) d1) e1, d1, x1⟩, oe, vs, T, oT, ts, sb.extBut _ _ (fun z => hC oe vs (z ▸ he) hd) he, hd, h1, hTe, sb.extBut _ _ (fun z => hC oT ts (z ▸ hT) hdT) hT, hdT, h3⟩
theorem leaving_alone {base : Heap} {env : Env} {outer : List Env} {L : Addr} (hfr : A.frames = some (env :: outer)) (hf : env.frame = some L) (hl : s.heap.FunFrames base (env :: outer)) (k : AloneT e s.heap) :
    wpAny M A (leaving env (.ref e)) (fun _ s' => AloneT e s'.heap) E s := by
  unfold leaving
  exact wpAny_bind (wpAny_mono (note_alone hfr hf hl k) (fun _ _ k1 => flight_alone k1) fun _ _ z => z)
theorem leavingM_alone {base : Heap} {env : Env} {outer : List Env} {L : Addr} {oe : Obj} {vs : Array Value} (hfr : A.frames = some (env :: outer)) (hf : env.frame = some L) (hl : s.heap.FunFrames base (env :: outer)) (he : s.heap.get? e = some oe) (hd : oe.data = .fields vs) (h1 : vs[1]? = some .none) (k : Alone e s.heap) :
    wpAny M A (leaving env (.ref e)) (fun _ s' => AloneT e s'.heap) E s := by
  unfold leaving
  exact wpAny_bind (wpAny_mono (first_alone hfr hf hl he hd h1 k) (fun _ _ k1 => flight_alone k1) fun _ _ z => z)
end
end Tw

set_option Elab.async false
set_option linter.all false
set_option maxRecDepth 100000
namespace L2
open PySem PySem.Spec PyProof.Rows
/-! Exceptions: raised by own classes under ValueError, passed on through defs, caught by a name. -/
abbrev bmVE : List Value := [.type "ValueError", .type "Exception", .type "BaseException", .type "object"]
/-- an own exception class of the text, named x -/
structure ExcK (K : PySem.W.Frag) (C : Addr) : Prop where
  exc : PySem.W.excIn K C bmVE "ValueError.__new__" = true
  ga : PySem.W.findIn K (.ref C) "__getattribute__" = some (some (.builtin "BaseException.__getattribute__"))
  gt : PySem.W.findIn K (.ref C) "__getattr__" = some none
  ca : PySem.W.findIn K (.ref C) "__class__" = some (some (.builtin "object.__class__"))
  cg : PySem.W.specialIn K (.builtin "object.__class__") "__get__" = some (some (.builtin "getset_descriptor.__get__"))
  tk : PySem.W.takesIn K (.builtin "object.__class__") = some true
  mo : PySem.W.mroIn K C (.type "object") = some true
  mb : PySem.W.mroIn K C (.type "BaseException") = some true
structure ExcC (K : PySem.W.Frag) (mg : Str → Option Value) (x : Str) (C : Addr) : Prop where
  at_ : mg x = some (.ref C)
  k : ExcK K C
theorem ExcK.obj {K : PySem.W.Frag} {C : Addr} {h : Heap} (c : ExcK K C) (X : K.In h) : ∃ bm N nm q bs hdct sn sub ab col dd k0 k1 k2 k3 k5 mN, h.get? C = some (excClassObj nm q C N bs bm hdct sn sub ab col dd k0 k1 k2 k3 k5 "ValueError.__new__") ∧ h.Ns N mN ∧ mN "__init__" = none ∧ OwnTail h bmVE bm := by
  have q := c.exc
  unfold PySem.W.excIn at q
  split at q
  · rename_i dd cd sl ho
    split at q
    · rename_i C' bm k0 k1 k2 k3 n k5 hm hs
      simp only [Bool.and_eq_true, beq_iff_eq, Bool.not_eq_true'] at q
      obtain ⟨⟨⟨⟨⟨rfl, rfl⟩, hdel⟩, ht⟩, hok⟩, hni⟩ := q
      obtain ⟨nm, bs, mro, ns, qn, hd, sn, sub, ab, col, del⟩ := cd
      dsimp only at hm hdel hok hni
      subst hm hdel
      have hsl : sl = #[k0, k1, k2, k3, some (.builtin "ValueError.__new__"), k5] := by
        obtain ⟨l⟩ := sl
        simp only at hs
        rw [hs]
      subst hsl
      exact ⟨bm, ns, nm, qn, bs, hd, sn, sub, ab, col, dd, k0, k1, k2, k3, k5, _, X _ _ ho, .of_isNs (PySem.W.isNs_of_in X hok), PySem.W.nsMap_none_of_in X hok hni, PySem.W.tail_of_in X ht⟩
    · cases q
  · cases q
theorem ObjOk.there {P : Program} {w : World} {H : Hp} {h : Heap} {b : Addr} {u : HO} (k : ObjOk P w H h b u) : ∃ o, h.get? b = some o := by
  revert k
  cases u with
  | lst xs => rintro ⟨_, its, n, _, z⟩; exact ⟨_, z⟩
  | tup xs => rintro ⟨_, its, _, o, z, _⟩; exact ⟨_, z⟩
  | dK kvs => rintro ⟨_, _, vs, _, o, es, ep, z, _⟩; exact ⟨_, z⟩
  | dT kvs => rintro ⟨_, _, vs, _, o, es, ep, z, _⟩; exact ⟨_, z⟩
  | set S n => rintro ⟨o, es, ep, t, z, _⟩; exact ⟨_, z⟩
  | ins C dx fs => rintro ⟨_, _, _, z, _⟩; exact ⟨_, z⟩
  | own y => rintro ⟨o, z⟩; exact ⟨_, z⟩
  | xd fs => rintro ⟨mA, ⟨od, es, ep, z, _⟩, _⟩; exact ⟨_, z⟩
  | rng lo hi => rintro ⟨t, u, v, z⟩; exact ⟨_, z⟩
  | frz ob u => rintro ⟨z, _⟩; exact ⟨_, z⟩
  | tbl ps => intro z; exact ⟨_, z⟩
  | met f y => intro z; exact ⟨_, z⟩
  | ext φ => rintro ⟨_, ⟨o, z⟩, _⟩; exact ⟨_, z⟩
/-- an exception in flight behind a call: B holds what stood at the raise, the frames left out -/
structure Flown (P : Program) (w : World) (outer : List Env) (H : Hp) (s : Shared) (E : XK) (ea : Addr) (cls : Value) (H' : Hp) (B : Heap) (s' : Shared) : Prop where
  os : s'.os = s.os
  bare : AllBare s'.gens
  un : Un (frs outer) [] H H' s.heap s'.heap
  hok : HOk P w H' s'.heap
  fly : ∃ a0, Heap.FlyingW B outer ea cls a0 s'.heap
  old : ∀ b o, s.heap.get? b = some o → b ∉ frs outer → ∃ o', B.get? b = some o' ∧ (H b = none → o' = o)
  trk : ∀ b u o, H' b = some u → s'.heap.get? b = some o → B.get? b = some o
  want : E cls none H'
  al : Tw.AloneT ea s'.heap ∨ E cls (some 0) H'
def CXE (P : Program) (w : World) : CXT := fun outer H s E e s' => ∃ (ea : Addr) (cls : Value) (H' : Hp) (B : Heap), e = .ref ea ∧ Flown P w outer H s E ea cls H' B s'
section
variable {P : Program} {w : World} {X : Cx} {pins : List (Addr × Obj)} {σ : St} {H H' : Hp} {s s' : Shared} {E : XK} {ea : Addr} {cls : Value} {B : Heap} {outer : List Env}
theorem Flown.some_of (F : Flown P w outer H s E ea cls H' B s') {b : Addr} {u : HO} (e : H' b = some u) : ∃ o, s'.heap.get? b = some o := (F.hok b u e).there
theorem Flown.free (F : Flown P w outer H s E ea cls H' B s') : H' ea = none := by
  cases q : H' ea with
  | none => rfl
  | some u =>
    obtain ⟨o, e⟩ := F.some_of q
    have h1 := F.trk _ _ _ q e
    obtain ⟨a0, _, h2, _⟩ := F.fly
    rw [h2] at h1; cases h1
/-- the exception goes through another heap that keeps B -/
theorem Flown.hokTo (F : Flown P w outer H s E ea cls H' B s') {h' : Heap} (k : B.StaysIn h') : HOk P w H' h' := fun b u e => by
  refine (F.hok b u e).stay (fun c v hc q => ?_) (fun _ q => q) fun _ _ q => q
  rcases hc with r | r
  · subst r; exact k _ _ (F.trk _ _ _ e q)
  · exact k _ _ (F.trk _ _ _ r q)
/-- behind the exception, in the frame of X: what the abstract heap bears -/
theorem Flown.inv (F : Flown X.prog X.w X.stack H s E ea cls H' B s') (I : Inv X pins σ H s) {h' : Heap} {t' : Nat} (k : B.StaysIn h') (up : s'.heap.UpToSlots h') : Inv X pins σ H' { s' with heap := h', toks := t' } := by
  obtain ⟨a0, _, _, fr, _⟩ := F.fly
  refine I.call' (s' := { s' with heap := h', toks := t' }) (ch := []) F.os ⟨fun b o e n hb _ => ?_, fun b o e n hb _ => ?_, fun b o e n _ => F.un.free b o e n (by simp), fun b o e _ => ?_, F.un.tups, F.un.frzs, F.un.tbls⟩ (F.hokTo k) F.bare (fun _ z => nomatch z)
  · obtain ⟨o', q, z⟩ := F.old b o e hb
    rw [z n] at q
    exact k _ _ q
  · obtain ⟨sl, q⟩ := F.un.slot b o e n hb (by simp)
    obtain ⟨_, o2, q2, d2⟩ := fr.mem hb
    rw [q] at q2; cases q2
    obtain ⟨sl', q'⟩ := up b _ q d2
    exact ⟨sl', q'⟩
  · by_cases hb : b ∈ frs X.stack
    · obtain ⟨_, o2, q2, d2⟩ := fr.mem hb
      obtain ⟨sl', q'⟩ := up b _ q2 d2
      exact ⟨_, q'⟩
    · obtain ⟨o', q, _⟩ := F.old b o e hb
      exact ⟨o', k _ _ q⟩
end
/-- a def's body lets its callee's exceptions through -/
theorem passE {P : Program} {w : World} {K : PySem.W.Frag} {mg : Str → Option Value} {base : Heap} {N : List Str} {qual : Str} {scope : Scope} {f : Addr} {cd : Value} {A : Around} {outer : List Env} {s : Shared} {H : Hp} {E : XK} :
    Passes (CXE P w) (cxOf (CXE P w) P w K mg base N qual scope f cd A outer s H E) E := by
  intro pins σ H1 s1 e s' I h
  obtain ⟨ea, cls, H', B, rfl, F⟩ := h
  have F' : Flown P w (envOfC qual scope s.heap.objs.size f cd :: outer) H1 s1 E ea cls H' B s' := F
  obtain ⟨a0, fl⟩ := F'.fly
  have hfr := I.ok.frames
  show wpAny _ _ (leaving _ _) _ _ _
  have on : ∀ E1 : Value → Shared → Prop, wpAny (model P w) (A.deeper (envOfC qual scope s.heap.objs.size f cd)) (leaving (envOfC qual scope s.heap.objs.size f cd) (.ref ea)) (fun _ s2 => (Tw.AloneT ea s2.heap ∨ E cls (some 0) H') ∧ ∃ h', s2 = { s' with heap := h' } ∧ Heap.FlyingW B outer ea cls a0 h' ∧ s'.heap.UpToSlots h') E1 s' := fun E1 => by
    have one : wpAny (model P w) (A.deeper (envOfC qual scope s.heap.objs.size f cd)) (leaving (envOfC qual scope s.heap.objs.size f cd) (.ref ea)) (fun _ s2 => ∃ h', s2 = { s' with heap := h' } ∧ Heap.FlyingW B outer ea cls a0 h' ∧ s'.heap.UpToSlots h') E1 s' := wpAny_leaves_onW (outer := outer) hfr rfl fl fun h' fl' up => ⟨h', rfl, fl', up⟩
    rcases F'.al with ka | ka
    · exact wpAny_mono (Tw.wpAny_both (Tw.leaving_alone (E := E1) hfr rfl fl.2.2.1 ka) one) (fun _ _ z => ⟨.inl z.1, z.2⟩) fun _ _ z => z.1
    · exact wpAny_mono one (fun _ _ z => ⟨.inr ka, z⟩) fun _ _ z => z
  refine wpAny_mono (on _) (fun _ s2 ⟨ka, h', e2, fl', up⟩ => ?_) fun _ _ z => z
  subst e2
  have frs2 : ∀ b, b ∈ frs (envOfC qual scope s.heap.objs.size f cd :: outer) → b = s.heap.objs.size ∨ b ∈ frs outer := fun b hb => by
    obtain ⟨env, he, hf⟩ := List.mem_filterMap.mp hb
    rcases List.mem_cons.mp he with rfl | he
    · exact .inl (Option.some.inj hf).symm
    · exact .inr (List.mem_filterMap.mpr ⟨env, he, hf⟩)
  have notin : ∀ b o, s.heap.get? b = some o → b ∉ frs outer → b ∉ frs (envOfC qual scope s.heap.objs.size f cd :: outer) := fun b o e hb z => by
    rcases frs2 b z with r | r
    · have := Heap.lt_size e
      rw [r] at this
      exact Nat.lt_irrefl _ this
    · exact hb r
  have base0 : Un (frs outer) [] H H1 s.heap s1.heap := I.base
  obtain ⟨_, _, frm, _⟩ := id fl
  have frm' : s'.heap.FunFrames B outer := frm.2.2
  refine ⟨ea, cls, H', B, rfl, F'.os.trans I.os, F'.bare, ⟨fun b o e n hb _ => ?_, fun b o e n hb _ => ?_, fun b o e n _ => ?_, fun b o e _ => ?_, fun b xs e => F'.un.tups b xs (base0.tups b xs e), fun b o u e => F'.un.frzs b o u (base0.frzs b o u e), fun b ps e => ?_⟩, F'.hokTo fl'.1, ⟨a0, fl'⟩, fun b o e hb => ?_, fun b u o e q => ?_, F'.want, ka⟩
  · obtain ⟨o', q, z⟩ := F'.old b o (base0.keep b o e n hb (by simp)) (notin b o e hb)
    rw [z (base0.free b o e n (by simp))] at q
    exact fl'.1 _ _ q
  · obtain ⟨sl, q⟩ := base0.slot b o e n hb (by simp)
    obtain ⟨sl2, q2⟩ := F'.un.any (b := b) q (base0.free b o e n (by simp)) (by simp)
    obtain ⟨_, o3, q3, d3⟩ := frm'.mem hb
    rw [q2] at q3; cases q3
    obtain ⟨sl', q'⟩ := up b _ q2 d3
    exact ⟨sl', q'⟩
  · obtain ⟨o1, q1⟩ := base0.there b o e (by simp)
    exact F'.un.free b o1 q1 (base0.free b o e n (by simp)) (by simp)
  · obtain ⟨o1, q1⟩ := base0.there b o e (by simp)
    by_cases hb : b ∈ frs outer
    · obtain ⟨_, o3, q3, d3⟩ := frm'.mem hb
      obtain ⟨sl', q'⟩ := up b _ q3 d3
      exact ⟨_, q'⟩
    · obtain ⟨o', q, _⟩ := F'.old b o1 q1 (notin b o e hb)
      exact ⟨o', fl'.1 _ _ q⟩
  · obtain ⟨m1, e1⟩ := base0.tbls b ps e
    obtain ⟨m2, e2⟩ := F'.un.tbls b _ e1
    exact ⟨m1 ++ m2, by rw [e2, Array.append_assoc]⟩
  · obtain ⟨o1, q1⟩ := base0.there b o e (by simp)
    obtain ⟨o', q, z⟩ := F'.old b o1 q1 (notin b o e hb)
    refine ⟨o', q, fun n => ?_⟩
    have q1' := base0.keep b o e n hb (by simp)
    rw [q1'] at q1; cases q1
    exact z (base0.free b o e n (by simp))
  · obtain ⟨o1, q1⟩ := F'.some_of e
    have q2 := F'.trk b u o1 e q1
    have q3 := fl'.1 _ _ q2
    rw [q3] at q; cases q
    exact q2
/-- an exception newly made, its trace empty -/
structure MadeX (h h' : Heap) (e : Addr) (cls : Value) : Prop where
  keeps : ∀ b o, h.get? b = some o → h'.get? b = some o
  new : h.get? e = none
  there : ∃ oe vs a0, h'.get? e = some oe ∧ oe.cls = cls ∧ oe.data = .fields vs ∧ vs[0]? = some a0 ∧ vs[1]? = some .none
theorem MadeX.of {h h' : Heap} {e : Addr} {cls : Value} {args : List Value} (x : Heap.MadeExcOf h h' e cls args) : MadeX h h' e cls ∧ Tw.Alone e h' := by
  obtain ⟨t, he, _, _⟩ := x.there
  exact ⟨⟨x.keeps, x.new, _, _, _, he, rfl, rfl, rfl, rfl⟩, _, _, he, rfl, rfl⟩
/-- raising: what a body's context must let through -/
def RaisesX (X : Cx) (C : Addr) (E : XK) : Prop := ∀ (pins : List (Addr × Obj)) (σ : St) (H : Hp) (s : Shared) (h' : Heap) (e : Addr), Inv X pins σ H s → MadeX s.heap h' e (.ref C) → E (.ref C) none H → (Tw.Alone e h' ∨ E (.ref C) (some 0) H) → X.xe (.ref e) { s with heap := h' }
def Raises (X : Cx) (C : Addr) (E : XK) : Prop := ∀ (pins : List (Addr × Obj)) (σ : St) (H : Hp) (s : Shared) (h' : Heap) (e : Addr) (args : List Value), Inv X pins σ H s → Heap.MadeExcOf s.heap h' e (.ref C) args → E (.ref C) none H → X.xe (.ref e) { s with heap := h' }
theorem raisesX {P : Program} {w : World} {K : PySem.W.Frag} {mg : Str → Option Value} {base : Heap} {N : List Str} {qual : Str} {scope : Scope} {f C : Addr} {cd : Value} {A : Around} {outer : List Env} {s : Shared} {H : Hp} {E : XK} :
    RaisesX (cxOf (CXE P w) P w K mg base N qual scope f cd A outer s H E) C E := by
  intro pins σ H1 s1 h1 e I hx hE hA
  have hfr := I.ok.frames
  have st := I.stack
  show wpAny _ _ (leaving _ _) _ _ _
  have hin : ∀ env ∈ (envOfC qual scope s.heap.objs.size f cd :: outer), ∀ b, env.frame = some b → b ∈ frs (envOfC qual scope s.heap.objs.size f cd :: outer) := fun env he b hb => List.mem_filterMap.mpr ⟨env, he, hb⟩
  have hid : ∀ {b o}, s1.heap.get? b = some o → b ∉ frs (envOfC qual scope s.heap.objs.size f cd :: outer) → (PySem.W.hideAll s1.heap (frs (envOfC qual scope s.heap.objs.size f cd :: outer))).get? b = some o := fun q nm => PySem.W.hideAll_get _ q nm
  obtain ⟨oe, vs, a0, he, hcl, hd, h0, h1'⟩ := hx.there
  have fr1 : h1.FunFrames (PySem.W.hideAll s1.heap (frs (envOfC qual scope s.heap.objs.size f cd :: outer))) (envOfC qual scope s.heap.objs.size f cd :: outer) := (PySem.W.funFrames_hide st hin).of_keeps fun b o hb _ => ⟨o, hx.keeps b o hb, rfl⟩
  have hkb : (PySem.W.hideAll s1.heap (frs (envOfC qual scope s.heap.objs.size f cd :: outer))).StaysIn h1 := fun b o q => hx.keeps b o (PySem.W.of_hideAll _ q)
  have hnw : (PySem.W.hideAll s1.heap (frs (envOfC qual scope s.heap.objs.size f cd :: outer))).get? e = none := by
    cases q : (PySem.W.hideAll s1.heap (frs (envOfC qual scope s.heap.objs.size f cd :: outer))).get? e with
    | none => rfl
    | some o' =>
      have := PySem.W.of_hideAll _ q
      rw [hx.new] at this
      cases this
  have on : ∀ E1 : Value → Shared → Prop, wpAny (model P w) (A.deeper (envOfC qual scope s.heap.objs.size f cd)) (leaving (envOfC qual scope s.heap.objs.size f cd) (.ref e)) (fun _ s2 => (Tw.AloneT e s2.heap ∨ E (.ref C) (some 0) H1) ∧ ∃ h', s2 = { s1 with heap := h' } ∧ Heap.FlyingW (PySem.W.hideAll s1.heap (frs (envOfC qual scope s.heap.objs.size f cd :: outer))) outer e (.ref C) a0 h' ∧ h1.UpToSlots h') E1 { s1 with heap := h1 } := fun E1 => by
    have one : wpAny (model P w) (A.deeper (envOfC qual scope s.heap.objs.size f cd)) (leaving (envOfC qual scope s.heap.objs.size f cd) (.ref e)) (fun _ s2 => ∃ h', s2 = { s1 with heap := h' } ∧ Heap.FlyingW (PySem.W.hideAll s1.heap (frs (envOfC qual scope s.heap.objs.size f cd :: outer))) outer e (.ref C) a0 h' ∧ h1.UpToSlots h') E1 { s1 with heap := h1 } :=
      wpAny_leaving_firstW (s := { s1 with heap := h1 }) (a0 := a0) hfr fr1 rfl he hkb hnw hd h1' h0 fun h' hL => by
        obtain ⟨k1, ⟨_, _, k2⟩, k3, k4⟩ := hL
        rw [hcl] at k3
        exact ⟨h', rfl, ⟨k1, hnw, k2, k3⟩, k4⟩
    rcases hA with ka | ka
    · exact wpAny_mono (Tw.wpAny_both (Tw.leavingM_alone (s := { s1 with heap := h1 }) (E := E1) hfr rfl fr1 he hd h1' ka) one) (fun _ _ z => ⟨.inl z.1, z.2⟩) fun _ _ z => z.1
    · exact wpAny_mono one (fun _ _ z => ⟨.inr ka, z⟩) fun _ _ z => z
  refine wpAny_mono (on _) (fun _ s2 ⟨ka, h', e2, fl, up⟩ => ?_) fun _ _ z => z
  subst e2
  have base0 : Un (frs outer) [] H H1 s.heap s1.heap := I.base
  have notin : ∀ b o, s.heap.get? b = some o → b ∉ frs outer → b ∉ frs (envOfC qual scope s.heap.objs.size f cd :: outer) := fun b o e hb z => by
    obtain ⟨env, he, hf⟩ := List.mem_filterMap.mp z
    rcases List.mem_cons.mp he with rfl | he
    · have h1 := Heap.lt_size e
      have z2 : s.heap.objs.size = b := Option.some.inj hf
      rw [← z2] at h1
      exact Nat.lt_irrefl _ h1
    · exact hb (List.mem_filterMap.mpr ⟨env, he, hf⟩)
  have trkd : ∀ b u, H1 b = some u → b ∉ frs (envOfC qual scope s.heap.objs.size f cd :: outer) := fun b u e z => by
    rw [I.stkFree b z] at e; cases e
  obtain ⟨_, _, frm, _⟩ := id fl
  refine ⟨e, .ref C, H1, _, rfl, I.os, I.bare, ⟨fun b o e n hb _ => ?_, fun b o e n hb _ => ?_, fun b o e n _ => base0.free b o e n (by simp), fun b o e _ => ?_, base0.tups, base0.frzs, base0.tbls⟩, fun b u e => ?_, ⟨_, fl⟩, fun b o e hb => ?_, fun b u o e q => ?_, hE, ka⟩
  · exact fl.1 _ _ (hid (base0.keep b o e n hb (by simp)) (notin b o e hb))
  · obtain ⟨sl, q⟩ := base0.slot b o e n hb (by simp)
    obtain ⟨_, o3, q3, d3⟩ := st.2.2.mem hb
    rw [q] at q3; cases q3
    obtain ⟨sl', q'⟩ := up b _ (hx.keeps _ _ q) d3
    exact ⟨sl', q'⟩
  · obtain ⟨o1, q1⟩ := base0.there b o e (by simp)
    by_cases hb : b ∈ frs outer
    · obtain ⟨_, o3, q3, d3⟩ := frm.mem hb
      exact ⟨_, q3⟩
    · exact ⟨o1, fl.1 _ _ (hid q1 (notin b o e hb))⟩
  · refine (I.hok b u e).stay (fun c v hc q => ?_) (fun _ q => q) fun _ _ q => q
    rcases hc with r | r
    · subst r; exact fl.1 _ _ (hid q (trkd _ _ e))
    · exact fl.1 _ _ (hid q (trkd _ _ r))
  · obtain ⟨o1, q1⟩ := base0.there b o e (by simp)
    refine ⟨o1, hid q1 (notin b o e hb), fun n => ?_⟩
    have q2 := base0.keep b o e n hb (by simp)
    rw [q1] at q2; cases q2; rfl
  · obtain ⟨o1, q1⟩ := (I.hok b u e).there
    have q2 := hid q1 (trkd _ _ e)
    have q3 := fl.1 _ _ q2
    rw [q3] at q; cases q
    exact q2

theorem raisesE {P : Program} {w : World} {K : PySem.W.Frag} {mg : Str → Option Value} {base : Heap} {N : List Str} {qual : Str} {scope : Scope} {f C : Addr} {cd : Value} {A : Around} {outer : List Env} {s : Shared} {H : Hp} {E : XK} :
    Raises (cxOf (CXE P w) P w K mg base N qual scope f cd A outer s H E) C E := fun pins σ H1 s1 h1 e args I hx hE => raisesX pins σ H1 s1 h1 e I (MadeX.of hx).1 hE (.inl (MadeX.of hx).2)
section
variable {X : Cx} {x : Str} {C : Addr} {E : XK} {np cpos pos : Pos} {e : Expr} {es : List Expr} {t : TA}
def tRaise (C : Addr) (E : XK) (t : TA) : TS := fun _ σ H => t σ H fun vs H1 => vs.length ≤ 1000 ∧ E (.ref C) none H1
/-- raise C(..) -/
theorem ps_raise (c : ExcC X.K X.mg x C) (hr : Raises X C E) (ha : PA X (e :: es) t) (hc : X.calm = true) (hg : Gl X x := by rfl) (hd : (x == ("__debug__" : Str)) = false := by decide)
    (he : starEach (e :: es) X.env = (false, eval e X.env) :: starEach es X.env := by rfl) (hpl : (backTo cpos (starEach es X.env)).any (·.1) = false := by rfl) :
    PS X (.Raise (some (.Call (.Name x np) (e :: es) [] cpos)) none pos) (tRaise C E t) := by
  intro pins s σ H D I h
  obtain ⟨bm, N, nm, q, bs, hdct, sn, sub, ab, col, dd, k0, k1, k2, k3, k5, mN, hC, hN, hni, T⟩ := c.k.obj I.ok.mod.kin
  refine wpAny_Raise_call_subT (C := C) (nm := nm) (q := q) (N := N) (bs := bs) (bm := bm) (hdct := hdct) (sn := sn) (sub := sub) (ab := ab) (col := col) (dd := dd) (k0 := k0) (k1 := k1) (k2 := k2) (k3 := k3) (k5 := k5)
    PySem.F.excBase_ValueError (mN := mN) (T.hasType PySem.F.excBase_ValueError.hasBase) (I.ok.hd hc) (by rw [he]; show (false || (backTo cpos (starEach es X.env)).any (·.1)) = false; rw [hpl]; rfl) hni (ld_glob I hg c.at_ ⟨rfl, ?_⟩ hd)
  have h' := ha cpos pins s σ H _ I h
  rw [he] at h' ⊢
  refine Calls.evalArgs_plain (thn h' fun us s2 ⟨vs, H2, I2, r2, z, q2⟩ => ?_)
  have hl : us.length ≤ sizeLine := by rw [← r2.length]; exact Nat.le_of_lt (small1000 z)
  exact ⟨rfl, hl, I2.bk _ _ hC, hN.keeps I2.bk, T.keeps I2.bk, fun h' e hm => hr pins σ H2 s2 h' e us I2 hm q2⟩
end
/-! ### what may raise, inside try -/
def XIn (X : Cx) (pins : List (Addr × Obj)) (σ : St) (E : XK) (e : Value) (s' : Shared) : Prop := ∃ H1 s1, Inv X pins σ H1 s1 ∧ CXE X.prog X.w X.stack H1 s1 E e s'
def PEx (X : Cx) (e : Expr) (t : XK → TE) : Prop :=
  ∀ (pins : List (Addr × Obj)) (s : Shared) (σ : St) (H : Hp) (Q : VK) (E : XK), Inv X pins σ H s → t E σ H Q → wpAny (model X.prog X.w) X.A (eval e X.env) (EP X pins σ Q) (XIn X pins σ E) s
def PSx (X : Cx) (st : Stmt) (t : XK → TS) : Prop :=
  ∀ (pins : List (Addr × Obj)) (s : Shared) (σ : St) (H : Hp) (D : Ends) (E : XK), Inv X pins σ H s → t E D σ H → wpAny (model X.prog X.w) X.A (exec st X.env) (SP X pins D) (XIn X pins σ E) s
section
variable {X : Cx} {k j : Nat} {ps : List Str} {sp : Sp} {x : Str} {p pos : Pos} {e : Expr} {es : List Expr} {t : TA}
theorem pex_fn (c : Cal X.prog X.w X.K X.mg X.base (CXE X.prog X.w) k x ps sp) (hr : Room j X.A) (ha : PA X.nox (e :: es) t) (hk : k ≤ j := by decide) (hg : Gl X x := by rfl) (hdb : (x == ("__debug__" : Str)) = false := by decide)
    (he : starEach (e :: es) X.env = (false, eval e X.env) :: starEach es X.env := by rfl) (hpl : (backTo pos (starEach es X.env)).any (·.1) = false := by rfl) :
    PEx X (.Call (.Name x p) (e :: es) [] pos) (fun E => tCall sp [] E t) := by
  intro pins s σ H Q E I h
  obtain ⟨f, fd, F, hb, kp, hm⟩ := c.ex
  refine wpAny_Call_Name_kw (ld_glob I hg hm ?_ hdb)
  refine PySem.W.callWith_K (h₀ := X.base) I.ok.mod.kin kp (wpAny_mono (ha pos pins s σ H _ (I.wish _) h) (fun us s1 ⟨vs, H1, I1, r, q⟩ => ⟨I1.kIn, ?_⟩) fun _ _ z => z.elim) he hpl
  have I1' : Inv X pins σ H1 s1 := I1.unwish
  have r2 : Vals (vs ++ []) (us ++ []) := r.append .nil
  have hl : (us ++ []).length = ps.length := by rw [← r2.length]; exact F.len _ _ _ _ q
  refine wpAny_call (codeAny_mono (F.run X.A X.stack s1 H1 ⟨us, []⟩ (us ++ []) (vs ++ []) Q E (hr.mono hk) I1'.env0 (hb s1 us I1'.kIn hl) r2 q) fun r s' hq => ?_)
  cases r with
  | error e => exact ⟨H1, s1, I1', hq⟩
  | ok fl =>
    cases fl with
    | ret u => exact I1'.after hq
    | next => exact False.elim hq
    | brk => exact False.elim hq
    | cont => exact False.elim hq
theorem psx_expr {e : Expr} {te : XK → TE} (he : PEx X e te) (hs : swapsWith e none pos.line X.env = pure false := by rfl) : PSx X (.Expr e pos) (fun E => tDrop (te E)) := by
  intro pins s σ H D E I h
  exact wpAny_Expr_any (thn (he pins s σ H _ E I h) fun v s1 ⟨x, H1, I1, r1, q1⟩ => ⟨σ, H1, I1, q1⟩) I.quiet hs
theorem psx_set {i : Nat} {y : Str} {e : Expr} {te : XK → TE} {pos' : Pos} (hN : X.N.Nodup) (hi : X.N[i]? = some y) (hx : Loc X.env.scope y) (he : PEx X e te) (hs : swapsWith e (some (.Name y pos')) pos.line X.env = pure false := by rfl)
    (hf : X.fn y = true ∨ X.env.scope.names.lookup y = some .local := by first | exact .inl rfl | exact .inr rfl | assumption) : PSx X (.Assign [.Name y pos'] e pos) (fun E => tAsg (te E) (gName i)) := by
  intro pins s σ H D E I h
  refine wpAny_Assign_Name (thn (he pins s σ H _ E I h) fun v s1 ⟨z, H1, I1, r1, q1⟩ => ?_) hs
  exact store_ok I1 hN hi hx r1 (fun s2 I2 => ⟨_, H1, I2, q1⟩) hf
end
/-- a caught exception, as a tracked thing -/
def ExcAt (a C : Addr) (h : Heap) : Prop := ∃ o, h.get? a = some o ∧ o.cls = .ref C
def xO (a C : Addr) : HO := .ext (ExcAt a C)
/-- the context of an except suite -/
def Cx.suite (X : Cx) (ea : Addr) : Cx := { X with A := X.A.mark (some (.ref ea)), calm := false, xe := fun _ _ => False }
section
variable {X : Cx} {pins : List (Addr × Obj)} {σ : St} {H : Hp} {s : Shared}
theorem Cx.Ok.suite (ok : X.Ok) (ea : Addr) : (X.suite ea).Ok :=
  ⟨ok.mod, ok.kind, ok.glob, ok.blt, ok.above, ok.inj, ok.has, ok.cab, (fun z => by cases z), ok.frames, ok.stk, ok.exf, ok.bs, ok.bsz, ok.noex, ok.exfs, ok.funs, ok.frf⟩
theorem Cx.Ok.unsuite {ea : Addr} (ok : (X.suite ea).Ok) (hd : X.calm = true → X.A.handled = none) : X.Ok :=
  ⟨ok.mod, ok.kind, ok.glob, ok.blt, ok.above, ok.inj, ok.has, ok.cab, hd, ok.frames, ok.stk, ok.exf, ok.bs, ok.bsz, ok.noex, ok.exfs, ok.funs, ok.frf⟩
theorem Inv.suite (I : Inv X pins σ H s) (ea : Addr) : Inv (X.suite ea) pins σ H s := ⟨I.ok.suite ea, I.os, I.bare, I.base, I.loc, I.cell, I.free, I.freeC, I.pin, I.hok, I.len⟩
theorem Inv.unsuite {ea : Addr} (I : Inv (X.suite ea) pins σ H s) (hd : X.calm = true → X.A.handled = none) : Inv X pins σ H s := ⟨I.ok.unsuite hd, I.os, I.bare, I.base, I.loc, I.cell, I.free, I.freeC, I.pin, I.hok, I.len⟩
/-- the name of a caught exception goes -/
theorem gone_ok {M : Model} {A : Around} {E : Value → Shared → Prop} {i : Nat} {n : Str} {pos : Pos} {Q : Unit → Shared → Prop} (I : Inv X pins σ H s) (hN : X.N.Nodup) (hi : X.N[i]? = some n) (hk : X.env.scope.names.lookup n = some .local)
    (h : ∀ s', Inv X pins (σ.set i none) H s' → Q () s') : wpAny M A (do bindName X.env n .none; unbindBehindTheSuite X.env n pos) Q E s := by
  obtain ⟨m, hn, hl⟩ := id I.loc
  have hcls : (X.env.scope.kind == .class || (X.env.scope.kind == .module && X.env.locals != X.env.globals)) = false := by rw [I.ok.kind]; rfl
  have hiσ : i < σ.length := by rw [I.len]; exact (List.getElem?_eq_some_iff.mp hi).1
  have cne := I.cne
  have tracked : ∀ {a : Addr} {h' : Heap}, (∃ o, s.heap.get? a = some o ∧ H a = none) → Heap.SameBut a s.heap h' → HOk X.prog X.w H h' := fun {a h'} ha hs b ob e => by
    obtain ⟨_, _, hfree⟩ := ha
    refine (I.hok b ob e).stay (fun c w' hc q => (hs.2 c ?_).trans q) (fun _ q => q) fun _ _ q => q
    rintro rfl
    rcases hc with rfl | hc
    · rw [hfree] at e; cases e
    · rw [hfree] at hc; cases hc
  refine wpAny_nameGoes_keeps hk hn hcls fun h' v hn' hs => ?_
  obtain ⟨oL, _, _, hoL, _⟩ := id hn
  refine h _ ⟨I.ok, I.os, I.bare, ⟨fun b o e n hb hx => ?_, fun b o e n hb hx => ?_, I.base.free, fun b o e hx => ?_, I.base.tups, I.base.frzs, I.base.tbls⟩, ⟨_, hn', fun j y v' e1 e2 e3 => ?_⟩, fun y c e => ?_, I.free, I.freeC, fun p hp => ?_, tracked ⟨oL, hoL, I.free⟩ hs, by simpa using I.len⟩
  · exact (hs.2 b (Nat.ne_of_lt (Nat.lt_of_lt_of_le (Heap.lt_size e) I.ok.above))).trans (I.base.keep b o e n hb hx)
  · obtain ⟨sl, e1⟩ := I.base.slot b o e n hb hx
    exact ⟨sl, (hs.2 b (Nat.ne_of_lt (Nat.lt_of_lt_of_le (Heap.lt_size e) I.ok.above))).trans e1⟩
  · obtain ⟨o', e1⟩ := I.base.there b o e hx
    exact ⟨o', (hs.2 b (Nat.ne_of_lt (Nat.lt_of_lt_of_le (Heap.lt_size e) I.ok.above))).trans e1⟩
  · by_cases hj : j = i
    · subst hj
      rw [List.getElem?_set_self hiσ] at e2
      cases e2
    · rw [List.getElem?_set_ne (Ne.symm hj)] at e2
      obtain ⟨u', r', q⟩ := hl j y v' e1 e2 e3
      refine ⟨u', r', ?_⟩
      rcases q with ⟨k, e⟩ | ⟨k, c, e, z⟩
      · refine .inl ⟨k, ?_⟩
        have : y ≠ n := fun e => hj (nodup_ix hN e1 (e ▸ hi))
        simp [this, e]
      · exact .inr ⟨k, c, e, z.sameBut hs (cne y c e)⟩
  · obtain ⟨w', z⟩ := I.cell y c e
    exact ⟨w', z.sameBut hs (cne y c e)⟩
  · obtain ⟨e, n, ne, nf, d⟩ := I.pin p hp
    exact ⟨(hs.2 p.1 ne).trans e, n, ne, nf, d⟩
end
/-- try: one statement that may raise; except C as n: suite -/
def tTry (K : PySem.W.Frag) (W : Addr) (i : Nat) (t : XK → TS) (ts : TS) : TS := fun D σ H =>
  t (fun cls _ H2 => ∃ C, cls = .ref C ∧ PySem.W.exmOne K (.ref C) (.ref W) = some true ∧ ∀ ea, H2 ea = none →
    ts ⟨fun σ2 H3 => D.nx (σ2.set i none) H3, D.rt, fun σ2 H3 => D.bk (σ2.set i none) H3, fun σ2 H3 => D.ct (σ2.set i none) H3⟩ (σ.set i (some (.ref ea))) (upd H2 ea (xO ea C))) D σ H
section
variable {X : Cx} {st b₀ : Stmt} {suite : List Stmt} {W : Addr} {i : Nat} {y n : Str} {np hpos pos : Pos} {t : XK → TS} {ts : TS}
theorem ps_try (hW : X.mg y = some (.ref W)) (hN : X.N.Nodup) (hi : X.N[i]? = some n) (hl : X.env.scope.names.lookup n = some .local) (hc : X.calm = true) (hst : X.stack = X.env :: X.outer) (hfr : X.env.frame = some X.env.locals)
    (hb : PSx X st t) (hz : ∀ ea, PSs (X.suite ea) (b₀ :: suite) ts) (hg : Gl X y := by rfl) (hd : (y == ("__debug__" : Str)) = false := by decide) :
    PS X (.Try [st] [.ExceptHandler (some (.Name y np)) (some n) (b₀ :: suite) hpos] [] [] pos) (tTry X.K W i t ts) := by
  intro pins s σ H D I h
  have hh := I.ok.hd
  refine wpAny_Try_except (wpAny_execs_cons (wpAny_mono (hb pins s σ H D _ I h) (fun f s1 q => ?_) fun e s1 q => ?_))
  · cases f with
    | next => exact wpAny_execs_nil (wpAny_execs_nil q)
    | ret v => exact q
    | brk => exact q
    | cont => exact q
  · obtain ⟨H1, s2, I2, ea, cls, H', B, rfl, F⟩ := q
    obtain ⟨C, rfl, hm, hts⟩ := F.want
    obtain ⟨a0, fl⟩ := F.fly
    have fl0 : Heap.FlyingW B (X.env :: X.outer) ea (.ref C) a0 s1.heap := hst ▸ fl
    have hfrm : X.A.frames = some (X.env :: X.outer) := hst ▸ I.ok.frames
    refine wpAny_looks_onW hfrm hfr fl0 fun h4 held4 up4 => ?_
    refine wpAny_landsW held4 fun h5 fl5 up5' => ?_
    have up5 := up4.trans up5'
    have I5 : Inv X pins σ H' { s1 with heap := h5 } := F.inv (t' := s1.toks) I2 fl5.1 up5
    have I5' := I5.suite ea
    obtain ⟨ob, hob, hobc⟩ := fl5.there
    refine wpAny_handleBy_cons (codeAny_handlers_test (ld_glob (X := X.suite ea) I5' hg hW ?_ hd)) (by intro z; cases z)
    have ty : ∀ M : Model, PySem.W.Looks M h5 (typeOf (.ref ea)) (.ref C) := fun M => hobc ▸ (PySem.W.Looks.ld hob).andThen .now
    refine PySem.W.Looks.here (PySem.W.exm_one (K := X.K) I5.kIn (ty _) hm) ?_
    refine codeAny_handlers_suite_as ?_
    refine lands_againW fl5 fun h6 fl6 up6 => ?_
    have I6 : Inv X pins σ H' { s1 with heap := h6 } := F.inv (t' := s1.toks) I2 fl6.1 (up5.trans up6)
    obtain ⟨ob6, hob6, hobc6⟩ := fl6.there
    have nea := F.free
    have hea6 : h6.get? ea = some ob6 := hob6
    obtain ⟨_, oe, vs, T, oT, tt, he6, _, hd6, _⟩ := (show _ ∧ _ from ⟨trivial, fl6.2.2.2⟩)
    have neB : B.get? ea = none := fl6.2.1
    have notf : ea ∉ frs X.stack := fun z => by
      obtain ⟨_, o2, q2, d2⟩ := fl6.2.2.1.mem (hst ▸ z)
      rw [he6] at q2; cases q2
      exact d2 _ hd6
    have olds : ∀ b o, s2.heap.get? b = some o → b ≠ ea := fun b o e z => by
      subst z
      obtain ⟨o', q, _⟩ := F.old b o e notf
      rw [neB] at q; cases q
    have I7 : Inv X pins σ (upd H' ea (xO ea C)) { s1 with heap := h6 } := by
      have fr6 : h6.FunFrames B X.stack := hst ▸ fl6.2.2.1
      have up := up5.trans up6
      refine I2.call' (s' := { s1 with heap := h6 }) (ch := []) F.os ⟨fun b o e n hb _ => ?_, fun b o e n hb _ => ?_, fun b o e n _ => ?_, fun b o e _ => ?_, fun b xs e => ?_, fun b o u e => ?_, fun b ps e => ?_⟩ (fun b u e => ?_) F.bare (fun _ z => nomatch z)
      · obtain ⟨o', q, z⟩ := F.old b o e hb
        rw [z n] at q
        exact fl6.1 _ _ q
      · obtain ⟨sl, q⟩ := F.un.slot b o e n hb (by simp)
        obtain ⟨_, o2, q2, d2⟩ := (hst ▸ fl.2.2.1 : s1.heap.FunFrames B X.stack).mem hb
        rw [q] at q2; cases q2
        obtain ⟨sl', q'⟩ := up b _ q d2
        exact ⟨sl', q'⟩
      · rw [upd_ne (olds b o e)]; exact F.un.free b o e n (by simp)
      · by_cases hb : b ∈ frs X.stack
        · obtain ⟨_, o2, q2, d2⟩ := fr6.mem hb
          exact ⟨_, q2⟩
        · obtain ⟨o', q, _⟩ := F.old b o e hb
          exact ⟨o', fl6.1 _ _ q⟩
      · have q := F.un.tups b xs e
        rw [upd_ne (ne_of_none q nea)]; exact q
      · have q := F.un.frzs b o u e
        rw [upd_ne (ne_of_none q nea)]; exact q
      · obtain ⟨more, q⟩ := F.un.tbls b ps e
        exact ⟨more, by rw [upd_ne (ne_of_none q nea)]; exact q⟩
      · by_cases hb : b = ea
        · subst hb
          rw [upd_same] at e
          cases e
          exact ⟨⟨ob6, hob6, hobc6⟩, ⟨ob6, hob6⟩, fun h1 h2 ⟨o, z, zc⟩ k => ⟨o, k o z, zc⟩⟩
        · rw [upd_ne hb] at e
          refine (F.hok b u e).stay (fun c v hc' q => ?_) (fun c q => by rw [upd_ne (ne_of_none q nea)]; exact q) fun c xs q => by rw [upd_ne (ne_of_none q nea)]; exact q
          rcases hc' with r | r
          · subst r; exact fl6.1 _ _ (F.trk _ _ _ e q)
          · exact fl6.1 _ _ (F.trk _ _ _ r q)
    refine store_ok (X := X.suite ea) (I7.suite ea) hN hi (.inl hl) (v := .ref ea) rfl (fun s8 I8 => ?_) (.inr hl)
    refine wpAny_mono (hz ea pins s8 _ _ _ I8 (hts ea nea)) (fun f s9 q9 => ?_) fun _ _ z => z.elim
    have fin : ∀ {Q : Unit → Shared → Prop} {σ9 : St} {H9 : Hp}, Inv (X.suite ea) pins σ9 H9 s9 → (∀ s', Inv X pins (σ9.set i none) H9 s' → Q () s') → wpAny (model X.prog X.w) X.A (do bindName X.env n .none; unbindBehindTheSuite X.env n hpos) Q X.xe s9 :=
      fun I9 k => gone_ok (I9.unsuite hh) hN hi hl k
    cases f with
    | next =>
      obtain ⟨σ9, H9, I9, q⟩ := q9
      exact fin I9 fun s' I' => ⟨_, _, I', q⟩
    | brk =>
      obtain ⟨σ9, H9, I9, q⟩ := q9
      exact fin I9 fun s' I' => ⟨_, _, I', q⟩
    | cont =>
      obtain ⟨σ9, H9, I9, q⟩ := q9
      exact fin I9 fun s' I' => ⟨_, _, I', q⟩
    | ret v =>
      obtain ⟨x9, σ9, H9, I9, r9, q⟩ := q9
      exact fin I9 fun s' I' => ⟨x9, _, _, I', r9, q⟩
end

theorem Fun.okE {P : Program} {w : World} {K : PySem.W.Frag} {mg : Str → Option Value} {base : Heap} {x qual : Str} {st : Stmt} {f : Addr} {fd : FuncData} {N ps : List Str} {k : Nat} {sp : Sp} (F : Fun K x qual st f fd) (S : FnScope N ps (defScope st)) (len : ∀ vs H Q E, sp vs H Q E → vs.length = ps.length)
    (hbody : ∀ (cdv : Value) (A : Around) (outer : List Env) (s : Shared) (H : Hp) (vs : List V) (Q : VK) (E : XK), Room k (A.deeper (envOfC qual (defScope st) s.heap.objs.size f cdv)) → sp vs H Q E →
      ∃ t, PSs (cxOf (CXE P w) P w K mg base N qual (defScope st) f cdv A outer s H E) (defBody st) t ∧ t { nx := fun _ H' => Q .non H', rt := Q } (start N vs) H) : FnOk P w K mg base (CXE P w) (k + 1) f fd ps sp := by
  obtain ⟨oc, od, kV, doc, pm, an, cdv, ct, osl, rfl, lk, hcd⟩ := F.ex
  exact fn_of lk hcd S len fun A outer s H vs Q E hr hsp => hbody cdv A outer s H vs Q E hr hsp
end L2

set_option Elab.async false
set_option linter.all false
set_option maxRecDepth 100000
namespace L2
open PySem PySem.Spec PyProof.Rows PySem.Builtin PySem.Builtin.ObjectAttr PySem.Builtin.Getset_descriptor
/-! ### isinstance of a caught exception -/
section
variable {prog : Program} {w : World} {A : Around} {E : Value → Shared → Prop} {s : Shared} {K : PySem.W.Frag} {a C : Addr}
theorem ExcAt.ty {M : Model} {h : Heap} (p : ExcAt a C h) : PySem.W.Looks M h (typeOf (.ref a)) (.ref C) := by
  obtain ⟨o, ho, hc⟩ := p
  exact hc ▸ (PySem.W.Looks.ld ho).andThen .now
theorem exc_find {M : Model} {h : Heap} (c : ExcK K C) (X : K.In h) : PySem.W.Looks M h (find (.ref a) (.ref C) "__class__") (.bind (.builtin "getset_descriptor.__get__") (.builtin "object.__class__")) := by
  have L1 := PySem.W.looks_findIn (M := M) X c.ca
  have L2 : PySem.W.Looks M h (getOf (some (.builtin "object.__class__"))) (some (.builtin "getset_descriptor.__get__")) := PySem.W.looks_specialIn X c.cg
  have L3 := PySem.W.looks_takesIn (M := M) X c.tk
  exact L1.andThen (L2.andThen ((show PySem.W.Looks M h (dataDescriptor? (some (.builtin "object.__class__")) (some (.builtin "getset_descriptor.__get__"))) (some (.builtin "getset_descriptor.__get__", .builtin "object.__class__")) from L3.andThen .now).andThen (PySem.W.Looks.tag .now)))
theorem exc_getcls {R : Result → Shared → Prop} {tp : Value} (X : K.In s.heap) (p : ExcAt a C s.heap) (hm : PySem.W.mroIn K C (.type "object") = some true)
    (h : R (.ok (.ret (.ref C))) s) : codeAny (model prog w) A (.call (.builtin "getset_descriptor.__get__") ⟨[.builtin "object.__class__", .ref a, tp], []⟩) R s := by
  obtain ⟨hh, g, dr, t, os⟩ := s
  have L0 := p.ty (M := model prog w)
  have L1 := PySem.W.looks_mroIn (M := model prog w) X hm
  refine codeAny_call_builtin PySem.W.KF.slot_gs.plain PySem.W.KF.entry_gs (PySem.W.KF.slot_gs.check _ _ _ _ _ _ _ _ PySem.W.KF.type_class (PySem.W.KF.args_gs _ _ _) ?_)
  unfold Builtin.«getset_descriptor.__get__» descrGet
  rw [PySem.W.dga_obj]
  refine wpAny_bind (wpAny_pure ?_)
  unfold descrGetter descrCheckInstance descrNameAndClass isInstance
  simp only [PySem.W.KF.owner_class]
  repeat lk
  refine ⟨Code.quiet_builtin _ (by decide +kernel), codeAny_builtin PySem.W.KF.entry_class ?_⟩
  unfold Builtin.«object.__class__» shownTypeOf
  repeat lk
  exact h
theorem exc_check {M : Model} {nameV : Value} {Q : Unit → Shared → Prop} (X : K.In s.heap) (p : ExcAt a C s.heap) (hm : PySem.W.mroIn K C (.type "BaseException") = some true) (hq : Q () s) :
    wpAny M A (checkBuiltinCall "BaseException.__getattribute__" ⟨[.ref a, nameV], []⟩) Q E s := by
  obtain ⟨hh, g, dr, t, os⟩ := s
  have hk : builtinKind "BaseException.__getattribute__" = some .slot := by decide +kernel
  have hsplit : splitId "BaseException.__getattribute__" = some ("BaseException", "__getattribute__") := by decide +kernel
  have L0 := p.ty (M := M)
  have L1 := PySem.W.looks_mroIn (M := M) X hm
  have LI : PySem.W.Looks M hh (isInstance (.ref a) (.type "BaseException")) true := L0.andThen L1
  have ha := PySem.F.args_bexc_ga (.ref a) nameV
  simp only [checkBuiltinCall, hk, hsplit]
  refine wpAny_bind (LI.at ?_)
  repeat lk
  exact hq
theorem exc_entry {tk : Tok} {Q : PySem.Fin → Shared → Prop} (c : ExcK K C) (X : K.In s.heap) (p : ExcAt a C s.heap) (h : Q (.done (.ret (.ref C))) s) :
    wpAny (model prog w) A (Builtin.«object.__getattribute__» ⟨[.ref a, .str "__class__" tk], []⟩) Q E s := by
  obtain ⟨hh, g, dr, t, os⟩ := s
  have L0 := p.ty (M := model prog w)
  have L1 := exc_find (M := model prog w) (a := a) c X
  unfold Builtin.«object.__getattribute__»
  repeat (first | with_reducible refine wpAny_call ?_ | lk)
  refine exc_getcls X p c.mo ?_
  dsimp only
  repeat lk
  exact h
theorem exc_class {Q : Option Value → Shared → Prop} (c : ExcK K C) (X : K.In s.heap) (p : ExcAt a C s.heap) (h : Q (some (.ref C)) { s with toks := s.toks + 1 }) : wpAny (model prog w) A (getAttr? (.ref a) "__class__") Q E s := by
  obtain ⟨hh, g, dr, t, os⟩ := s
  have L0 := p.ty (M := model prog w)
  have L1 := PySem.W.looks_findIn (M := model prog w) X c.ga
  have L2 := PySem.W.looks_findIn (M := model prog w) X c.gt
  unfold getAttr? getAttrBy? getAttrBy
  refine wpAny_bind (wpAny_mkText (wpAny_bind (wpAny_attempt (wpAny_holding (wpAny_bind (L0.at (wpAny_bind (L1.at ?_))))))))
  repeat (first | with_reducible refine wpAny_call ?_ | with_reducible refine wpAny_attempt ?_ | lk)
  refine codeAny_call_builtin PySem.F.attr_ValueError.ga.plain PySem.F.entry_bexc_ga (exc_check (s := ⟨hh, g, dr, t + 1, os⟩) X p c.mb ?_)
  refine exc_entry (s := ⟨hh, g, dr, t + 1, os⟩) c X p ?_
  dsimp only
  exact PySem.W.handed_on rfl (wpAny_pure h)
theorem exc_cls {M : Model} {h : Heap} (c : ExcK K C) (X : K.In h) : PySem.W.Looks M h (isType (.ref C)) true := by
  obtain ⟨bm, N, nm, q, bs, hdct, sn, sub, ab, col, dd, k0, k1, k2, k3, k5, mN, hC, _⟩ := c.obj X
  intro A' Q' E' s' k q
  unfold isType loadHead
  exact wpAny_bind (wpAny_loadPart (k _ _ hC) (wpAny_pure q))
theorem exc_ne {h : Heap} (c : ExcK K C) (X : K.In h) {tp : Addr} {dd : Option Addr} {its : List Value} {n : Nat} {sl : Array (Option Value)} (htp : h.get? tp = some ⟨.type "tuple", dd, .seq its.toArray n, sl⟩) : (Value.ref C == .ref tp) = false := by
  obtain ⟨bm, N, nm, q, bs, hdct, sn, sub, ab, col, dd, k0, k1, k2, k3, k5, mN, hC, _⟩ := c.obj X
  refine Bool.eq_false_iff.mpr fun z => ?_
  have e : C = tp := Value.ref.inj (beq_iff_eq.mp z)
  subst e
  have z2 := congrArg Obj.data (Option.some.inj (hC.symm.trans htp))
  cases z2
theorem kitx_exc (c : ExcK K C) : PySem.W.KitX K (.ref a) (.ref C) (ExcAt a C) where
  ty := fun _ _ _ p => p.ty
  it := fun _ _ X _ => exc_cls c X
  ne := fun _ tp dd its n sl X htp => exc_ne c X htp
  ca := fun X p k => exc_class c X p k
end
section
variable {X : Cx}
def rIsX (K : PySem.W.Frag) (c : V) (cv : Value) : List V → Hp → VK → Prop := fun xs H Q => ∃ a C b, xs = [.ref a, c] ∧ H a = some (xO a C) ∧ ExcK K C ∧ PySem.W.kitOne K (.ref C) cv = some b ∧ Q (.bl b) H
theorem call_isX {c : V} {cv : Value} (hc : ∀ u, RelV c u → u = cv) : CallR X (.builtin "isinstance") (rIsX X.K c cv) := by
  intro pins s σ H xs us Q I r h
  obtain ⟨a, C, b, rfl, ha, ek, e, q⟩ := h
  obtain ⟨u, w', rfl, ru, rw'⟩ := Vals.two r
  cases hc w' rw'
  cases (show u = Value.ref a from ru)
  obtain ⟨p, _⟩ := (show ObjOk X.prog X.w H s.heap a (xO a C) from I.hok a _ ha)
  exact PySem.W.kia_one (kitx_exc ek) I.kIn p e (fun z => nomatch z) fun tk => ⟨.bl b, H, I.tok tk, rfl, q⟩
theorem pe_isXO {x : Str} {C : Addr} {p p2 pos : Pos} {e : Expr} {te : TE} (hg : Gl X "isinstance") (hm : X.mg "isinstance" = none) (he : PE X e te) (hmC : X.mg x = some (.ref C)) (hgT : Gl X x := by rfl) (hd : (x == ("__debug__" : Str)) = false := by decide)
    (h1 : starEach [e, .Name x p2] X.env = (false, eval e X.env) :: starEach [.Name x p2] X.env := by rfl) (h2 : (backTo pos (starEach [.Name x p2] X.env)).any (·.1) = false := by rfl) :
    PE X (.Call (.Name "isinstance" p) [e, .Name x p2] [] pos) (tCB (rIsX X.K (.ref C) (.ref C)) (tCons te (tCons (tC (.ref C)) tNil))) :=
  pe_callB (call_isX fun u hu => hu) hg hm boot_isinstance (pa_cons he (pa_cons (pe_glob hgT hmC rfl hd) pa_nil) h1) (by decide) (by decide) h1 h2
theorem st_isX {K : PySem.W.Frag} {H : Hp} {Q : VK} {a C : Addr} {c : V} {cv : Value} {b : Bool} (h : H a = some (xO a C)) (k : ExcK K C) (e : PySem.W.kitOne K (.ref C) cv = some b) (q : Q (.bl b) H) : rIsX K c cv [.ref a, c] H Q := ⟨a, C, b, rfl, h, k, e, q⟩
theorem st_raise {D : Ends} {C : Addr} {E : XK} {t : TA} {σ : St} {H : Hp} (h : t σ H fun vs H1 => vs.length ≤ 1000 ∧ E (.ref C) none H1) : tRaise C E t D σ H := h
theorem st_try {D : Ends} {K : PySem.W.Frag} {W : Addr} {i : Nat} {t : XK → TS} {ts : TS} {σ : St} {H : Hp} (h : t (fun cls _ H2 => ∃ C, cls = .ref C ∧ PySem.W.exmOne K (.ref C) (.ref W) = some true ∧ ∀ ea, H2 ea = none →
    ts ⟨fun σ2 H3 => D.nx (σ2.set i none) H3, D.rt, fun σ2 H3 => D.bk (σ2.set i none) H3, fun σ2 H3 => D.ct (σ2.set i none) H3⟩ (σ.set i (some (.ref ea))) (upd H2 ea (xO ea C))) D σ H) : tTry K W i t ts D σ H := h
end
end L2

/-! Own mathematics: parities of bits, the product's sign. -/
namespace Tw
end Tw

set_option Elab.async false
set_option linter.all false
set_option maxRecDepth 100000
namespace Tw
theorem bI_nat (b : Bool) : bI b = ((b.toNat : Nat) : Int) := by cases b <;> rfl
end Tw
namespace L2
open PySem PySem.Spec PyProof.Rows
/-! Steps of readings, third part. -/
section
variable {K : PySem.W.Frag} {H : Hp} {Q : VK} {σ : St} {ta tb tc : TE} {r r' : R2} {n k : Nat} {i : Int} {p q : Bool} {a : Addr}
theorem st_and1 (h : Q (.int (Tw.bI (n.testBit 0))) H) : rI0 (fun i j => .int (Builtin.bitAnd i j)) (.int (n : Int)) (.int 1) H Q := st_i0 (by
  have e := bitAnd_bit n 0
  rw [Int.pow_zero, Int.ediv_one] at e
  rw [e]; exact h)
theorem st_shlB (c : k ≤ 1000) (h : Q (.int ((p.toNat * 2 ^ k : Nat) : Int)) H) : rI CPow (fun i j => .int (i * 2 ^ j.toNat)) (.int (Tw.bI p)) (.int (k : Int)) H Q := st_i (cpow_n c (by cases p <;> decide)) (by
  rw [Int.toNat_natCast, Tw.bI_nat, Tw.pow2_cast, ← Int.natCast_mul]; exact h)
end
section
variable {X : Cx} {K : PySem.W.Frag}
theorem op_inK (h : X.K = K) : OpR X (compareOp .In) (rIn K false) := h ▸ op_in_seq
end
section
variable {X : Cx} {K : PySem.W.Frag}
theorem pe_isXOK {x : Str} {C : Addr} {p p2 pos : Pos} {e : Expr} {te : TE} (h : X.K = K) (hg : Gl X "isinstance") (hm : X.mg "isinstance" = none) (he : PE X e te) (hmC : X.mg x = some (.ref C)) (hgT : Gl X x := by rfl) (hd : (x == ("__debug__" : Str)) = false := by decide)
    (h1 : starEach [e, .Name x p2] X.env = (false, eval e X.env) :: starEach [.Name x p2] X.env := by rfl) (h2 : (backTo pos (starEach [.Name x p2] X.env)).any (·.1) = false := by rfl) :
    PE X (.Call (.Name "isinstance" p) [e, .Name x p2] [] pos) (tCB (rIsX K (.ref C) (.ref C)) (tCons te (tCons (tC (.ref C)) tNil))) := h ▸ pe_isXO hg hm he hmC hgT hd h1 h2
end
end L2

set_option Elab.async false
set_option linter.all false
set_option maxRecDepth 100000
namespace L2
open PySem PySem.Spec PyProof.Rows
/-! all, list, str of an int; steps. -/
theorem all_getD (bs : List Bool) : (List.range bs.length).all (fun i => bs.getD i false) = bs.all id := by
  rw [Bool.eq_iff_iff, List.all_eq_true, List.all_eq_true]
  constructor
  · intro h b hb
    obtain ⟨i, hi, e⟩ := List.getElem_of_mem hb
    have := h i (List.mem_range.mpr hi)
    rw [List.getD_eq_getElem?_getD, List.getElem?_eq_getElem hi, Option.getD_some, e] at this
    exact this
  · intro h i hi
    have hi' := List.mem_range.mp hi
    rw [List.getD_eq_getElem?_getD, List.getElem?_eq_getElem hi', Option.getD_some]
    exact h _ (List.getElem_mem hi')
section
variable {X : Cx}
def rAll (K : PySem.W.Frag) : List V → Hp → VK → Prop := fun xs H Q => ∃ (p : Addr) (bs : List Bool), xs = [.ref p] ∧ SqL K H p (bs.map V.bl) ∧ Q (.bl (bs.all id)) H
theorem call_allB (hc : X.calm = true) : CallR X (.builtin "all") (rAll X.K) := by
  intro pins s σ H xs us Q I r h
  obtain ⟨p, bs, rfl, hs, q⟩ := h
  obtain ⟨u, rfl, ru⟩ := Vals.one r
  cases (show u = Value.ref p from ru)
  obtain ⟨its, rv, pl, hz⟩ := I.list hs
  have hlen : its.length = bs.length := by rw [← rv.length, List.length_map]
  have hpl : p < s.heap.objs.size := by
    obtain ⟨o, n, e, _⟩ := pl
    exact Heap.lt_size e
  refine call_all_walk (wpAny_pyIter_list pl.isList ?_)
  refine ⟨s.heap.objs.size, [s.heap.objs.size, p], [s.heap.objs.size], its.toArray.size, _, _, fun i => bs.getD i false, rfl, Walks.list (A := X.A.in1) (I.ok.hd hc) s.heap.objs.size p (Nat.ne_of_lt hpl) its.toArray, ⟨⟨_, Heap.get?_push_size _ rfl, rfl, rfl⟩, ?_⟩, fun i v s' Q' E' hv hq => ?_, fun h' tk hk => ?_⟩
  · exact pl.isList.at fun o e => Heap.get?_push_of_some _ e
  · have hv' : its[i]? = some v := by simpa using hv
    have hi : i < bs.length := by
      rw [← hlen]; exact (List.getElem?_eq_some_iff.mp hv').1
    obtain ⟨u, e1, e2⟩ := rv.get (i := i) (x := .bl bs[i]) (by rw [List.getElem?_map, List.getElem?_eq_getElem hi]; rfl)
    rw [hv'] at e1; cases e1
    cases (show v = Value.bool bs[i] from e2)
    refine wpAny_truthy_bool ?_
    dsimp only at hq
    rw [List.getD_eq_getElem?_getD, List.getElem?_eq_getElem hi, Option.getD_some] at hq
    exact hq
  · have e : its.toArray.size = bs.length := by simpa using hlen
    rw [e, all_getD]
    refine ⟨.bl _, H, I.kept (t' := tk) (h' := h') fun b o eb => hk b o (fun z => ?_) (Heap.get?_push_of_some _ eb), rfl, q⟩
    have : b = s.heap.objs.size := by simpa using z
    exact Nat.lt_irrefl _ (this ▸ Heap.lt_size eb)
/-! {}, as in the guide's dict layer -/
def tDNew : TE := fun _ H Q => ∀ p, H p = none → Q (.ref p) (upd H p (.dK []))
def rLst (K : PySem.W.Frag) : List V → Hp → VK → Prop := fun xs H Q => ∃ p ys, xs = [.ref p] ∧ (SqL K H p ys ∨ SqT K H p ys) ∧ ∀ l, H l = none → Q (.ref l) (upd H l (.lst ys))
theorem call_listQ : CallR X (.type "list") (rLst X.K) := call_list_of
def rStrI : List V → Hp → VK → Prop := fun xs H Q => ∃ i, xs = [.int i] ∧ i.natAbs.log2 < 1920 ∧ Q (.str (toString i)) H
end
section
variable {K : PySem.W.Frag} {H : Hp} {Q : VK} {a : Addr} {xs : List V}
theorem st_all {bs : List Bool} (s : SqL K H a (bs.map V.bl)) (q : Q (.bl (bs.all id)) H) : rAll K [.ref a] H Q := ⟨a, bs, rfl, s, q⟩
theorem st_lstT (s : SqT K H a xs) (q : ∀ l, H l = none → Q (.ref l) (upd H l (.lst xs))) : rLst K [.ref a] H Q := ⟨a, xs, rfl, .inr s, q⟩
theorem st_yes {σ : St} {R : Bool → Hp → Prop} (h : R true H) : tYes σ H R := h
theorem st_comp_tup {tl : TE} {tt : TT} {te : TE} {σ : St} (e : ∀ P : V → Hp → Prop, P (.ref a) H → tl σ H P) (s : SqT K H a xs) (Pv : Nat → List V → Hp → Prop) (hn : xs.length ≤ 1000) (h0 : Pv 0 [] H) (hl : ∀ i ys H, Pv i ys H → ys.length ≤ i) (hk : ∀ i ys H, Pv i ys H → SqT K H a xs)
    (hs : ∀ i x ys H, xs[i]? = some x → Pv i ys H → tt (some x :: σ) H fun b H2 => if b = true then te (some x :: σ) H2 fun y H3 => Pv (i + 1) (ys ++ [y]) H3 else Pv (i + 1) ys H2)
    (hd : ∀ ys H, Pv xs.length ys H → ∀ p, H p = none → Q (.ref p) (upd H p (.lst ys))) : tComp (iTup K tl) tt te σ H Q :=
  e _ ⟨a, rfl, ⟨xs, s⟩, comp_tup Pv hn h0 hl hk hs hd⟩
end
end L2

set_option Elab.async false
set_option linter.all false
set_option maxRecDepth 100000
namespace L2
open PySem PySem.Spec PyProof.Rows
/-! Texts: sign by sign, enumerate, slices, join, find. -/
theorem boot_enumerate : bootBuiltins "enumerate" = some (.type "enumerate") := by decide +kernel
/-- the signs of a text -/
def Its (z : Str) : It := ⟨fun i _ => i < z.cps.size, fun i H x H' => H' = H ∧ ∃ c, z.cps[i]? = some c ∧ x = .str ⟨#[c]⟩, fun i _ => z.cps.size ≤ i⟩
/-- enumerate of a text: a new pair at each turn -/
def Ite (z : Str) : It := ⟨fun i _ => i < z.cps.size, fun i H x H' => ∃ T c, H T = none ∧ x = .ref T ∧ z.cps[i]? = some c ∧ H' = upd H T (.tup [.int (i : Int), .str ⟨#[c]⟩]), fun i _ => z.cps.size ≤ i⟩
theorem turn_str {P : Program} {w : World} {K : PySem.W.Frag} {tg : Expr} {ty : String} (hty : ty = "str_ascii_iterator" ∨ ty = "str_iterator") (it : Addr) (z : Str) (t : Tok) :
    Turn P w K tg (Its z) [it] it (fun i h => h.IsStrIter it ty z t i ∧ i ≤ z.cps.size) where
  mem := by simp
  obj := fun i h st b hb => by
    have e : b = it := by simpa using hb
    subst e
    obtain ⟨⟨o, e, c, d⟩, _⟩ := st
    exact ⟨o, e, fun v q => by rw [d] at q; cases q⟩
  keep := fun i h h' st k => let ⟨⟨o, e, r⟩, l⟩ := st; ⟨⟨o, k it (by simp) o e, r⟩, l⟩
  item := by
    intro X hP hw hK hc i pins s σ H E I hf st hg
    subst hP hw hK
    obtain ⟨f0, f1, f2, f3, f4, f5⟩ := hf it (by simp)
    have W : Walks X.prog X.w X.A it [it] [it] z.cps.size (SignAt z) (fun i h => h.IsStrIter it ty z t i) := by
      rcases hty with rfl | rfl
      · exact Walks.strAscii (I.ok.hd hc) it z t
      · exact Walks.strWide (I.ok.hd hc) it z t
    refine W.item i s _ _ hg st.1 fun v h' tk hv st' kk => ?_
    obtain ⟨c, u, hc', rfl⟩ := hv
    have I1 : Inv X pins σ H { s with heap := h', toks := tk } := I.turned (fun b o hb e => kk b o (by simpa using hb) e) f0 f1 f3 f4 f5
    obtain ⟨o, e, ec, ed⟩ := id st'
    exact ⟨_, rfl, go_of (s := { s with heap := h', toks := tk }) (n := ty) e ec ed (by rcases hty with rfl | rfl <;> decide) ⟨.str ⟨#[c]⟩, H, I1, ⟨u, rfl⟩, ⟨rfl, c, hc', rfl⟩, ⟨st', hg⟩, fun b hb => (hf b hb).1⟩⟩
  done := by
    intro X hP hw hK hc i pins s σ H E I hf st hg
    subst hP hw hK
    obtain ⟨f0, f1, f2, f3, f4, f5⟩ := hf it (by simp)
    have W : Walks X.prog X.w X.A it [it] [it] z.cps.size (SignAt z) (fun i h => h.IsStrIter it ty z t i) := by
      rcases hty with rfl | rfl
      · exact Walks.strAscii (I.ok.hd hc) it z t
      · exact Walks.strWide (I.ok.hd hc) it z t
    have ei : i = z.cps.size := Nat.le_antisymm st.2 hg
    exact W.done s _ _ (ei ▸ st.1) fun h' tk kk => ⟨rfl, I.turned (fun b o hb e => kk b o (by simpa using hb) e) f0 f1 f3 f4 f5⟩
  self := fun _ _ _ _ _ st h => by
    rcases hty with rfl | rfl
    · exact wpAny_pyIter_striter_ascii st.1 h
    · exact wpAny_pyIter_striter_wide st.1 h
theorem turn_enum {P : Program} {w : World} {K : PySem.W.Frag} {elts : List Expr} {kk : Nat} {tpos : Pos} {ty : String} (hty : ty = "str_ascii_iterator" ∨ ty = "str_iterator") (e it : Addr) (hne : e ≠ it) (z : Str) (t : Tok) :
    Turn P w K (.Tuple elts kk tpos) (Ite z) [e, it] e (fun i h => ((∃ old, IsEnum h e it i old) ∧ h.IsStrIter it ty z t i) ∧ i ≤ z.cps.size) where
  mem := by simp
  obj := fun i h st b hb => by
    rcases List.mem_cons.mp hb with r | r
    · subst r
      obtain ⟨⟨⟨old, q⟩, _⟩, _⟩ := st
      exact ⟨_, q, fun v z => by
        have z' : Data.fields _ = Data.cell v := z
        cases z'⟩
    · have r' : b = it := by simpa using r
      subst r'
      obtain ⟨⟨_, ⟨o, q, c, d⟩⟩, _⟩ := st
      exact ⟨o, q, fun v q => by rw [d] at q; cases q⟩
  keep := fun i h h' st k => by
    obtain ⟨⟨⟨old, q⟩, ⟨o, q2, r⟩⟩, l⟩ := st
    exact ⟨⟨⟨old, k e (by simp) _ q⟩, ⟨o, k it (by simp) o q2, r⟩⟩, l⟩
  item := by
    intro X hP hw hK hc i pins s σ H E I hf st hg
    subst hP hw hK
    have D : Draws X.prog X.w X.A.in1 it [it] z.cps.size (fun i v => ∃ c u, z.cps[i]? = some c ∧ v = .str ⟨#[c]⟩ u) (fun i h => h.IsStrIter it ty z t i) := by
      rcases hty with rfl | rfl
      · exact Draws.strAscii (A := X.A.in1) (I.ok.hd hc) it z t
      · exact Draws.strWide (A := X.A.in1) (I.ok.hd hc) it z t
    have W := WalksT.enumerateD (A := X.A) D e hne (by simpa using hne) (by simp)
    refine W.item i s _ _ hg st.1 fun T vals h' tk hv hT htup mid kk' => ?_
    obtain ⟨t1, x, ⟨c, u, hc', rfl⟩, rfl⟩ := hv
    refine ⟨_, rfl, W.go elts kk tpos i T _ _ _ mid fun h2 st2 k2 => ?_⟩
    have hTw := W.apart i T _ mid
    have hH : H T = none := I.hok.fresh hT
    have kept : ∀ b o, b ∉ [e, it] → s.heap.get? b = some o → h2.get? b = some o := fun b o hb q => k2 b o hb (kk' b o hb q)
    have ntr : ∀ b v, H b = some v → b ∉ [e, it] := fun b v q hb => by
      have := (hf b (by simpa using hb)).1
      rw [q] at this; cases this
    have bT : ∀ b o, s.heap.get? b = some o → b ≠ T := fun b o q => Nat.ne_of_lt (Nat.lt_of_lt_of_le (Heap.lt_size q) hT)
    obtain ⟨oT, eT, cT, nT, dT⟩ := htup
    have eT2 := k2 T oT hTw eT
    have un : Un (frs X.stack) [e, it] H (upd H T (.tup [.int (i : Int), .str ⟨#[c]⟩])) s.heap h2 :=
      ⟨fun b o q _ _ n3 => kept b o n3 q, fun b o q _ _ n3 => ⟨o.slots, kept b o n3 q⟩, fun b o q n _ => by rw [upd_ne (bT b o q)]; exact n, fun b o q n3 => ⟨o, kept b o n3 q⟩,
        fun b xs q => by rw [upd_ne (ne_of_none q hH)]; exact q, fun b o v q => by rw [upd_ne (ne_of_none q hH)]; exact q, fun b ps q => ⟨#[], by rw [upd_ne (ne_of_none q hH), q]; simp⟩⟩
    have hok : HOk X.prog X.w (upd H T (.tup [.int (i : Int), .str ⟨#[c]⟩])) h2 := fun b v q => by
      by_cases hb : b = T
      · subst hb
        rw [upd_same] at q; cases q
        exact ⟨Nat.le_of_lt (small1000 (show (2 : Nat) ≤ 1000 by decide)), [.int (i : Int) t1, .str ⟨#[c]⟩ u], .cons ⟨_, rfl⟩ (.cons ⟨_, rfl⟩ .nil), oT, eT2, cT, nT, dT⟩
      · rw [upd_ne hb] at q
        refine (I.hok b v q).stay (fun c' v' hc2 q' => ?_) (fun c' q' => by rw [upd_ne (ne_of_none q' hH)]; exact q') fun c' xs q' => by rw [upd_ne (ne_of_none q' hH)]; exact q'
        rcases hc2 with r | r
        · subst r; exact kept _ _ (ntr _ _ q) q'
        · exact kept _ _ (ntr _ _ r) q'
    refine ⟨.ref T, _, I.call' (s' := { s with heap := h2, toks := tk }) rfl un hok I.bare (fun b hb => ?_), rfl, ⟨T, c, hH, rfl, hc', rfl⟩, ⟨st2, hg⟩, fun b hb => ?_⟩
    · obtain ⟨f0, f1, f2, f3, f4, f5⟩ := hf b hb
      exact ⟨f3, f1, f4, f5⟩
    · have hbT : b ≠ T := fun q => hTw (by rw [← q]; exact hb)
      rw [upd_ne hbT]; exact (hf b hb).1
  done := by
    intro X hP hw hK hc i pins s σ H E I hf st hg
    subst hP hw hK
    have D : Draws X.prog X.w X.A.in1 it [it] z.cps.size (fun i v => ∃ c u, z.cps[i]? = some c ∧ v = .str ⟨#[c]⟩ u) (fun i h => h.IsStrIter it ty z t i) := by
      rcases hty with rfl | rfl
      · exact Draws.strAscii (A := X.A.in1) (I.ok.hd hc) it z t
      · exact Draws.strWide (A := X.A.in1) (I.ok.hd hc) it z t
    have W := WalksT.enumerateD (A := X.A) D e hne (by simpa using hne) (by simp)
    have ei : i = z.cps.size := Nat.le_antisymm st.2 hg
    refine W.done s _ _ (ei ▸ st.1) fun h2 tk kk' => ⟨rfl, ?_⟩
    have ntr : ∀ b v, H b = some v → b ∉ [e, it] := fun b v q hb => by
      have := (hf b (by simpa using hb)).1
      rw [q] at this; cases this
    have un : Un (frs X.stack) [e, it] H H s.heap h2 :=
      ⟨fun b o q _ _ n3 => kk' b o n3 q, fun b o q _ _ n3 => ⟨o.slots, kk' b o n3 q⟩, fun b o q n _ => n, fun b o q n3 => ⟨o, kk' b o n3 q⟩, fun _ _ q => q, fun _ _ _ q => q, fun b ps q => ⟨#[], by rw [q]; simp⟩⟩
    have hok : HOk X.prog X.w H h2 := fun b v q => by
      refine (I.hok b v q).stay (fun c' v' hc2 q' => ?_) (fun _ q' => q') fun _ _ q' => q'
      rcases hc2 with r | r
      · subst r; exact kk' _ _ (ntr _ _ q) q'
      · exact kk' _ _ (ntr _ _ r) q'
    exact I.call' (s' := { s with heap := h2, toks := tk }) rfl un hok I.bare fun b hb => by
      obtain ⟨f0, f1, f2, f3, f4, f5⟩ := hf b hb
      exact ⟨f3, f1, f4, f5⟩
  self := fun _ _ _ _ _ st h => by
    obtain ⟨⟨⟨old, q⟩, _⟩, _⟩ := st
    exact wpAny_pyIter_enum q h
section
variable {X : Cx} {tg : Expr}
def iStr (tl : TE) : TI := fun σ H R => tl σ H fun x H1 => ∃ z, x = .str z ∧ R (Its z) H1
theorem pi_str {l : Expr} {tl : TE} (hl : PE X l tl) : PI X tg l (iStr tl) := by
  intro pins s σ H R I h
  refine thn (hl pins s σ H _ I h) fun v s1 ⟨x, H1, I1, r1, q1⟩ => ?_
  obtain ⟨z, rfl, q⟩ := q1
  obtain ⟨t, rfl⟩ := r1
  have fin : ∀ (ty : String) (o : Obj), (ty = "str_ascii_iterator" ∨ ty = "str_iterator") → (s1.heap.push o).IsStrIter s1.heap.objs.size ty z t 0 → PIE X pins σ tg R (.ref s1.heap.objs.size) { s1 with heap := s1.heap.push o } := fun ty o hty st => by
    refine ⟨s1.heap.objs.size, [s1.heap.objs.size], _, _, H1, rfl, I1.kept (t' := s1.toks) fun b o e => Heap.get?_push_of_some _ e, turn_str hty _ z t, ⟨st, Nat.zero_le _⟩, fun b hb => ?_, q⟩
    have e : b = s1.heap.objs.size := by simpa using hb
    subst e
    exact I1.fpOk (Nat.le_refl _) (I1.hok.fresh (Nat.le_refl _))
  cases ha : z.cps.all (· < 128)
  · exact wpAny_pyIter_wide ha (fin _ _ (.inr rfl) ⟨_, Heap.get?_push_size _ rfl, rfl, rfl⟩)
  · exact wpAny_pyIter_ascii ha (fin _ _ (.inl rfl) ⟨_, Heap.get?_push_size _ rfl, rfl, rfl⟩)
def iEnumS (ta : TA) : TI := fun σ H R => ta σ H fun vs H1 => ∃ z, vs = [.str z] ∧ R (Ite z) H1
theorem pi_enumS {elts : List Expr} {kk : Nat} {tpos : Pos} {a : Expr} {ta : TA} {p pos : Pos} (hg : Gl X "enumerate") (hm : X.mg "enumerate" = none) (ha : PA X [a] ta) (hs : starEach [a] X.env = [(false, eval a X.env)] := by rfl) :
    PI X (.Tuple elts kk tpos) (.Call (.Name "enumerate" p) [a] [] pos) (iEnumS ta) := by
  intro pins s σ H R I h
  refine Call_ (ld_blt I hg hm boot_enumerate (PyProof.Rows.callWith_type1 (thn (ha pos pins s σ H _ I h) fun us s1 ⟨vs, H1, I1, r1, q1⟩ => ?_) hs rfl))
  obtain ⟨z, rfl, q⟩ := q1
  obtain ⟨u, rfl, ru⟩ := Vals.one r1
  obtain ⟨t, rfl⟩ := ru
  refine call_enumerate_str fun h' he hit hsz hk => ?_
  refine wpAny_pyIter_enum he ?_
  have hty : strIterType z = "str_ascii_iterator" ∨ strIterType z = "str_iterator" := by
    unfold strIterType
    split
    · exact .inl rfl
    · exact .inr rfl
  refine ⟨s1.heap.objs.size + 1, [s1.heap.objs.size + 1, s1.heap.objs.size], _, _, H1, rfl, I1.kept (t' := s1.toks) hk, turn_enum hty _ _ (Nat.succ_ne_self _) z t, ⟨⟨⟨_, he⟩, hit⟩, Nat.zero_le _⟩, fun b hb => ?_, q⟩
  have hb' : s1.heap.objs.size ≤ b := by
    rcases List.mem_cons.mp hb with r | r
    · rw [r]; exact Nat.le_succ _
    · have : b = s1.heap.objs.size := by simpa using r
      rw [this]; exact Nat.le_refl _
  exact I1.fpOk hb' (I1.hok.fresh hb')
end
end L2

set_option Elab.async false
set_option linter.all false
set_option maxRecDepth 100000
namespace L2
open PySem PySem.Spec PyProof.Rows
/-! Texts as lists of signs: slices, join, find, upper, times, list, in. -/
/-- the text of these signs -/
abbrev T (l : List Nat) : V := .str ⟨l.toArray⟩
/-- the signs of l[lo:hi] -/
def cutN (l : List Nat) (lo hi : Option Int) : List Nat := (l.drop (HT.sIx l.length 0 lo)).take (HT.sIx l.length l.length hi - HT.sIx l.length 0 lo)
theorem str_indices (lo hi : Option Int) (n : Nat) : Builtin.Str.strSliceIndices lo hi 1 n = sliceRange ((HT.sIx n 0 lo : Nat) : Int) ((HT.sIx n n hi : Nat) : Int) 1 := by
  have h : ∀ (v : Option Int) (d : Nat), (match v with | none => (d : Int) | some i => max 0 (min (if i < 0 then i + (n : Int) else i) (n : Int))) = ((HT.sIx n d v : Nat) : Int) := fun v d => by
    cases v with
    | none => rfl
    | some i =>
      simp only [HT.sIx]
      by_cases h : i < 0
      · simp only [h, if_true] <;> omega
      · simp only [h, if_false] <;> omega
  rw [← h lo 0, ← h hi n]
  unfold Builtin.Str.strSliceIndices
  cases lo <;> cases hi <;> simp only [show (1 : Int) > 0 by decide, if_true] <;> rfl
theorem slice_cut (l : List Nat) (lo hi : Option Int) : Txt.slice ⟨l.toArray⟩ lo hi = ⟨(cutN l lo hi).toArray⟩ := by
  have hl : (⟨l.toArray⟩ : Str).length = l.length := by simp [Str.length]
  have e : (Builtin.Str.strSliceIndices lo hi 1 l.length).filterMap (fun i => l.toArray[i]?) = cutN l lo hi := by
    rw [str_indices, sliceRange_one]
    exact pick_run l.toArray _ _
  have e' : (Builtin.Str.strSliceIndices lo hi 1 (⟨l.toArray⟩ : Str).length).filterMap ((⟨l.toArray⟩ : Str).cps[·]?) = cutN l lo hi := by rw [hl]; exact e
  unfold Txt.slice
  split
  case isFalse => rw [e']
  case isTrue h =>
    have h2 : (Builtin.Str.strSliceIndices lo hi 1 l.length).length = l.length := by
      rw [hl] at h
      simpa using h
    congr 1
    congr 1
    have h3 : (HT.sIx l.length l.length hi - HT.sIx l.length 0 lo) = l.length := by
      rw [str_indices, sliceRange_one, List.length_map, List.length_range] at h2
      exact h2
    have b1 : HT.sIx l.length l.length hi ≤ l.length := by
      cases hi with
      | none => exact Nat.le_refl _
      | some i => simp only [HT.sIx]; split <;> omega
    unfold cutN
    rw [h3]
    by_cases h0 : l.length = 0
    · have : l = [] := List.eq_nil_of_length_eq_zero h0
      subst this; simp
    · have : HT.sIx l.length 0 lo = 0 := by omega
      rw [this]; simp
section
variable {X : Cx}
def rSlX : V → Option Int → Option Int → Hp → VK → Prop := fun x lo hi H Q => ∃ l, x = T l ∧ l.length ≤ 1000 ∧ Q (T (cutN l lo hi)) H
theorem len_T (l : List Nat) : (⟨l.toArray⟩ : Str).length = l.length := by simp [Str.length]
theorem sl_str : SlR X rSlX := by
  intro pins s σ H x v vl vu lo hi sl Q I rx hs pl pu h
  obtain ⟨l, rfl, hl, q⟩ := h
  obtain ⟨t, rfl⟩ := rx
  refine ⟨"str", _, F.slot_str_getitem.lookup, typeIs_str _ _ _, ?_⟩
  have hsz : (⟨l.toArray⟩ : Str).length ≤ sizeLine := by rw [len_T]; exact Nat.le_of_lt (small1000 hl)
  have fin : ∀ (a b : Option (Int × Tok)), a.map (·.1) = lo → b.map (·.1) = hi → s.heap.IsSlice sl a b none → wpAny (model X.prog X.w) X.A (getItem (.str ⟨l.toArray⟩ t) (.ref sl)) (EP X pins σ Q) X.xe s := fun a b ea eb hsl => by
    refine wpAny_getItem_str_slice (l := a) (u := b) (st := none) hsl rfl (post_val_or_str ⟨?_, fun t' k => ?_⟩)
    · have := Nat.le_trans (Txt.slice_le ⟨l.toArray⟩ lo hi) hsz
      rw [← ea, ← eb] at this
      exact this
    · have e := slice_cut l lo hi
      rw [← ea, ← eb] at e
      unfold Txt.slice at e
      refine ⟨T (cutN l lo hi), H, I.tok k, ⟨t', ?_⟩, q⟩
      rw [← ea, ← eb, ← e]
      rfl
  cases pl with
  | none =>
    cases pu with
    | none => exact fin none none rfl rfl hs
    | int j u => exact fin none (some (j, u)) rfl rfl hs
  | int i w =>
    cases pu with
    | none => exact fin (some (i, w)) none rfl rfl hs
    | int j u => exact fin (some (i, w)) (some (j, u)) rfl rfl hs
/-! join -/
theorem app_T (a b : List Nat) : (⟨a.toArray⟩ : Str) ++ ⟨b.toArray⟩ = ⟨(a ++ b).toArray⟩ := by
  show Str.mk (a.toArray ++ b.toArray) = _
  simp
theorem join_T : ∀ cs : List Nat, Txt.join ⟨([] : List Nat).toArray⟩ (cs.map fun c => (⟨[c].toArray⟩ : Str)) = ⟨cs.toArray⟩ := by
  intro cs
  show Builtin.Str.glued _ _ = _
  rw [StrLaws.glued_eq_join]
  induction cs with
  | nil => rfl
  | cons c cs ih =>
    cases cs with
    | nil => rfl
    | cons d r =>
      show (⟨[c].toArray⟩ : Str) ++ ⟨([] : List Nat).toArray⟩ ++ Str.join _ ((d :: r).map fun c => (⟨[c].toArray⟩ : Str)) = _
      rw [ih, app_T, app_T]
      simp
def rJoin (K : PySem.W.Frag) : V → List V → Hp → VK → Prop := fun x vs H Q => ∃ p cs, x = T [] ∧ vs = [.ref p] ∧ SqL K H p (cs.map fun c => T [c]) ∧ cs.length ≤ 1000 ∧ Q (T cs) H
theorem vals_T : ∀ {cs : List Nat} {us : List Value}, Vals (cs.map fun c => T [c]) us → ∃ l : List (Str × Tok), us = strValues l ∧ l.map (·.1) = cs.map fun c => (⟨[c].toArray⟩ : Str)
  | [], _, .nil => ⟨[], rfl, rfl⟩
  | c :: cs, _, .cons r rs => by
    obtain ⟨t, rfl⟩ := r
    obtain ⟨l, rfl, e⟩ := vals_T rs
    exact ⟨(_, t) :: l, rfl, by rw [List.map_cons, e]; rfl⟩
theorem mt_join : MtR X "str.join" (rJoin X.K) := by
  intro pins s σ H x xs v us Q I rx rs h
  obtain ⟨p, cs, rfl, rfl, hs, hl, q⟩ := h
  obtain ⟨t, rfl⟩ := rx
  obtain ⟨u, rfl, ru⟩ := Vals.one rs
  cases (show u = Value.ref p from ru)
  obtain ⟨its, rv, pl, hz⟩ := I.list hs
  obtain ⟨l, rfl, e⟩ := vals_T rv
  refine SC.join pl.isList e ?_ fun t' k => ?_
  · unfold JoinOk
    rw [Bool.not_eq_true', StrLaws.joinFits (B := 1)]
    · intro y hy
      obtain ⟨c, _, rfl⟩ := List.mem_map.mp hy
      exact Nat.le_refl 1
    · rw [List.length_map]
      show cs.length * 1 + cs.length * 0 ≤ 16777216
      omega
  · rw [join_T]
    exact ⟨T cs, H, I.tok k, ⟨_, rfl⟩, q⟩
/-! find, upper, times -/
def rFind : V → List V → Hp → VK → Prop := fun x vs H Q => ∃ a b, x = .str a ∧ vs = [.str b] ∧ Q (.int (Txt.find a b)) H
theorem mt_find : MtR X "str.find" rFind := by
  intro pins s σ H x xs v us Q I rx rs h
  obtain ⟨a, b, rfl, rfl, q⟩ := h
  obtain ⟨t, rfl⟩ := rx
  obtain ⟨u, rfl, ru⟩ := Vals.one rs
  obtain ⟨t', rfl⟩ := ru
  exact SC.find ⟨.int _, H, I.tok _, ⟨_, rfl⟩, q⟩
def rUpper : V → List V → Hp → VK → Prop := fun x vs H Q => ∃ a, x = .str a ∧ vs = [] ∧ (Txt.upper a).length ≤ 1000 ∧ Q (.str (Txt.upper a)) H
theorem mt_upper : MtR X "str.upper" rUpper := by
  intro pins s σ H x xs v us Q I rx rs h
  obtain ⟨a, rfl, rfl, hl, q⟩ := h
  obtain ⟨t, rfl⟩ := rx
  cases rs
  exact SC.upper (by have := small1000 hl; have e := sizeLine_eq; unfold Builtin.Str.tooLong; rw [decide_eq_false_iff_not]; omega) ⟨.str _, H, I.tok _, ⟨_, rfl⟩, q⟩
def rMulS : R2 := fun x y H Q => ∃ a i, x = .str a ∧ y = .int i ∧ MulOk a i ∧ Q (.str (Txt.mul a i)) H
theorem op_mulS : OpR X (binaryOp .Mult) rMulS := by
  intro pins s σ H x y v u Q I rx ry h
  obtain ⟨a, i, rfl, rfl, ok, q⟩ := h
  obtain ⟨t, rfl⟩ := rx
  obtain ⟨t', rfl⟩ := ry
  exact SB.mul ok fun t' k => ⟨.str _, H, I.tok _, ⟨_, rfl⟩, q⟩
def rAddS : R2 := fun x y H Q => ∃ i j, x = .str i ∧ y = .str j ∧ i.length + j.length ≤ sizeLine ∧ Q (.str (i ++ j)) H
theorem op_addS : OpR X (binaryOp .Add) rAddS := op_add_str
def rInS : R2 := fun x y H Q => ∃ i j, x = .str i ∧ y = .str j ∧ Q (.bl (!(Builtin.Str.occurrences j i 0 j.length 1).isEmpty)) H
theorem op_inS : OpR X (compareOp .In) rInS := op_in_str
def rNotInS : R2 := fun x y H Q => ∃ i j, x = .str i ∧ y = .str j ∧ Q (.bl (!(!(Builtin.Str.occurrences j i 0 j.length 1).isEmpty))) H
theorem op_notInS : OpR X (compareOp .NotIn) rNotInS := op_notin_str
/-! list of a text -/
def rLstS : List V → Hp → VK → Prop := fun xs H Q => ∃ l, xs = [T l] ∧ l.length ≤ 1000 ∧ ∀ p, H p = none → Q (.ref p) (upd H p (.lst (l.map fun c => T [c])))
end
/-! one sign in a text -/
theorem at_one (l : List Nat) (c i : Nat) : StrLaws.At ⟨l.toArray⟩ ⟨[c].toArray⟩ (⟨l.toArray⟩ : Str).length i ↔ l[i]? = some c := by
  unfold StrLaws.At
  rw [StrLaws.subAt_eq, len_T, len_T]
  show i + 1 ≤ l.length ∧ ((l.drop i).take 1 == [c]) = true ↔ _
  rw [beq_iff_eq]
  constructor
  · rintro ⟨h1, h2⟩
    have : (l.drop i).take 1 = [l[i]] := by
      rw [List.drop_eq_getElem_cons (by omega)]; rfl
    rw [this] at h2
    rw [List.getElem?_eq_getElem (by omega)]
    simpa using h2
  · intro h
    obtain ⟨h1, h2⟩ := List.getElem?_eq_some_iff.mp h
    refine ⟨h1, ?_⟩
    rw [List.drop_eq_getElem_cons h1, h2]
    rfl
theorem occ_one (l : List Nat) (c : Nat) : (!(Builtin.Str.occurrences ⟨l.toArray⟩ ⟨[c].toArray⟩ 0 (⟨l.toArray⟩ : Str).length 1).isEmpty) = decide (c ∈ l) := by
  rcases StrLaws.occ_head ⟨l.toArray⟩ ⟨[c].toArray⟩ 1 (Nat.le_refl 1) with ⟨h0, hn⟩ | ⟨i, r, h0, hi, hn⟩
  · rw [h0]
    symm
    refine decide_eq_false fun hc => ?_
    obtain ⟨i, hi, e⟩ := List.getElem_of_mem hc
    exact hn i ((at_one l c i).mpr (by rw [List.getElem?_eq_getElem hi, e]))
  · rw [h0]
    symm
    exact decide_eq_true (List.mem_of_getElem? ((at_one l c i).mp hi))
theorem find_one (l : List Nat) (c : Nat) : (Txt.find ⟨l.toArray⟩ ⟨[c].toArray⟩ = -1 ∧ c ∉ l) ∨ ∃ i : Nat, Txt.find ⟨l.toArray⟩ ⟨[c].toArray⟩ = (i : Int) ∧ l[i]? = some c := by
  rcases find_whole ⟨l.toArray⟩ ⟨[c].toArray⟩ with ⟨h0, hn⟩ | ⟨i, h0, hi, hn⟩
  · refine .inl ⟨h0, fun hc => ?_⟩
    obtain ⟨i, hi, e⟩ := List.getElem_of_mem hc
    exact hn i ((at_one l c i).mpr (by rw [List.getElem?_eq_getElem hi, e]))
  · exact .inr ⟨i, h0, (at_one l c i).mp hi⟩
theorem upper_len : ∀ l : List Nat, (∀ c ∈ l, c < 128) → (Txt.upper ⟨l.toArray⟩).length = l.length := by
  intro l
  induction l with
  | nil => intro _; rfl
  | cons c l ih =>
    intro h
    have e : (⟨(c :: l).toArray⟩ : Str) = ⟨[c].toArray⟩ ++ ⟨l.toArray⟩ := by rw [app_T]; rfl
    rw [e, PySem.W.KOpn.upper_app, Str.length_append, ih fun d hd => h d (List.mem_cons_of_mem _ hd)]
    have := PySem.W.KOpn.upper_one (h c (List.mem_cons_self ..))
    rw [show (⟨[c].toArray⟩ : Str) = ⟨#[c]⟩ from rfl, this]
    show 1 + l.length = l.length + 1
    omega
/-! steps -/
section
variable {K : PySem.W.Frag} {H : Hp} {Q : VK} {a : Addr} {l k : List Nat} {c : Nat} {σ : St}
theorem st_addS (h : l.length + k.length ≤ 1000) (q : Q (T (l ++ k)) H) : rAddS (T l) (T k) H Q := ⟨_, _, rfl, rfl, by rw [len_T, len_T]; exact Nat.le_of_lt (small1000 h), by rw [app_T]; exact q⟩
theorem st_inS (q : Q (.bl (decide (c ∈ l))) H) : rInS (T [c]) (T l) H Q := ⟨_, _, rfl, rfl, by rw [occ_one]; exact q⟩
theorem st_notInS (q : Q (.bl (!decide (c ∈ l))) H) : rNotInS (T [c]) (T l) H Q := ⟨_, _, rfl, rfl, by rw [occ_one]; exact q⟩
theorem st_slS {lo hi : Option Int} (h : l.length ≤ 1000) (q : Q (T (cutN l lo hi)) H) : rSlX (T l) lo hi H Q := ⟨l, rfl, h, q⟩
theorem st_ixS {i : Int} {c : Nat} (h : l.length ≤ 1000) (e : atI l i = some c) (q : Q (T [c]) H) : rIxS (T l) (.int i) H Q := ⟨_, i, c, rfl, rfl, by rw [len_T]; exact Nat.le_of_lt (small1000 h), e, q⟩
theorem st_lenX (s : l.length ≤ 1000) (h : Q (.int (l.length : Nat)) H) : rLen K [T l] H Q := st_lenS (by rw [len_T]; exact s) (by rw [len_T]; exact h)
theorem st_findS (q : Q (.int (Txt.find ⟨l.toArray⟩ ⟨k.toArray⟩)) H) : rFind (T l) [T k] H Q := ⟨_, _, rfl, rfl, q⟩
theorem str_T (z : Str) : z = ⟨z.cps.toList.toArray⟩ := by cases z; simp
theorem st_joinS {cs : List Nat} (s : SqL K H a (cs.map fun c => T [c])) (h : cs.length ≤ 1000) (q : Q (T cs) H) : rJoin K (T []) [.ref a] H Q := ⟨a, cs, rfl, rfl, s, h, q⟩
theorem st_for_enumS {ta : TA} {g : TG} {tb : TS} {D : Ends} (e : ∀ P : List V → Hp → Prop, P [T l] H → ta σ H P) (Pv : Nat → St → Hp → Prop) (h0 : Pv 0 σ H)
    (hs : ∀ i c σ H p, l[i]? = some c → Pv i σ H → H p = none → g (.ref p) σ (upd H p (.tup [.int (i : Int), T [c]])) fun σ2 H2 => tb { D with nx := Pv (i + 1), ct := Pv (i + 1), bk := D.nx } σ2 H2) (hd : ∀ σ H, Pv l.length σ H → D.nx σ H) : tFor (iEnumS ta) g tb D σ H := by
  refine e _ ⟨_, rfl, fun i m σ H => m = l.length - i ∧ i ≤ l.length ∧ Pv i σ H, ⟨l.length, by simp, Nat.zero_le _, h0⟩, ?_⟩
  rintro i m σ H ⟨rfl, hi, p⟩
  by_cases hlt : i < l.length
  · refine .inr ⟨by show i < l.toArray.size; simpa using hlt, Pv (i + 1), fun σ' H' p' => ⟨l.length - (i + 1), by omega, rfl, hlt, p'⟩, fun x H' y => ?_⟩
    obtain ⟨A, c, hA, rfl, hc, rfl⟩ := y
    exact hs i c σ H A (by simpa using hc) p hA
  · have e : i = l.length := by omega
    subst e
    exact .inl ⟨by show l.toArray.size ≤ l.length; simp, hd σ H p⟩
theorem st_comp_str {tl : TE} {tt : TT} {te : TE} (e : ∀ P : V → Hp → Prop, P (T l) H → tl σ H P) (Pv : Nat → List V → Hp → Prop) (hn : l.length ≤ 1000) (h0 : Pv 0 [] H) (hl : ∀ i ys H, Pv i ys H → ys.length ≤ i)
    (hs : ∀ i c ys H, l[i]? = some c → Pv i ys H → tt (some (T [c]) :: σ) H fun b H2 => if b = true then te (some (T [c]) :: σ) H2 fun y H3 => Pv (i + 1) (ys ++ [y]) H3 else Pv (i + 1) ys H2)
    (hd : ∀ ys H, Pv l.length ys H → ∀ p, H p = none → Q (.ref p) (upd H p (.lst ys))) : tComp (iStr tl) tt te σ H Q := by
  refine e _ ⟨_, rfl, fun i m ys H => m = l.length - i ∧ i ≤ l.length ∧ Pv i ys H, ⟨l.length, by simp, Nat.zero_le _, h0⟩, ?_⟩
  rintro i m ys H ⟨rfl, hi, p⟩
  by_cases hlt : i < l.length
  · refine .inr ⟨by show i < l.toArray.size; simpa using hlt, small1000 (by have := hl i ys H p; omega), Pv (i + 1), fun ys' H' p' => ⟨l.length - (i + 1), by omega, rfl, hlt, p'⟩, fun x H' y => ?_⟩
    obtain ⟨rfl, c, hc, rfl⟩ := y
    exact hs i c ys _ (by simpa using hc) p
  · have e : i = l.length := by omega
    subst e
    exact .inl ⟨by show l.toArray.size ≤ l.length; simp, hd ys H p⟩
end
end L2

set_option Elab.async false
set_option linter.all false
set_option maxRecDepth 100000
namespace Tw
open PySem L2
/-! rows as texts: signs, words -/
def sg : Bool → Bool → Nat
  | false, false => 46
  | true, false => 120
  | false, true => 122
  | true, true => 121
def signs (x z n : Nat) : List Nat := (List.range n).map fun k => sg (x.testBit k) (z.testBit k)
theorem signs_len (x z n : Nat) : (signs x z n).length = n := by unfold signs; rw [List.length_map, List.length_range]
theorem signs_succ (x z n : Nat) : signs x z (n + 1) = signs x z n ++ [sg (x.testBit n) (z.testBit n)] := by
  unfold signs
  rw [List.range_succ, List.map_append]
  rfl
theorem sg_inj {a b c d : Bool} (h : sg a b = sg c d) : a = c ∧ b = d := by
  revert h; cases a <;> cases b <;> cases c <;> cases d <;> decide
theorem sg_mem (a b : Bool) : sg a b ∈ [46, 120, 122, 121] := by cases a <;> cases b <;> decide
theorem sg_lt (a b : Bool) : sg a b < 128 := by cases a <;> cases b <;> decide
theorem signs_mem {x z n c : Nat} (h : c ∈ signs x z n) : c ∈ [46, 120, 122, 121] ∧ c < 128 := by
  obtain ⟨k, _, rfl⟩ := List.mem_map.mp h
  exact ⟨sg_mem _ _, sg_lt _ _⟩
theorem signs_get {x z n k : Nat} (h : k < n) : (signs x z n)[k]? = some (sg (x.testBit k) (z.testBit k)) := by
  unfold signs
  rw [List.getElem?_map, List.getElem?_range h]
  rfl
theorem signs_inj {x z x' z' n : Nat} (hx : x < 2 ^ n) (hz : z < 2 ^ n) (hx' : x' < 2 ^ n) (hz' : z' < 2 ^ n) (h : signs x z n = signs x' z' n) : x = x' ∧ z = z' := by
  have key : ∀ k, x.testBit k = x'.testBit k ∧ z.testBit k = z'.testBit k := fun k => by
    by_cases hk : k < n
    · have e := congrArg (·[k]?) h
      simp only [signs_get hk] at e
      exact sg_inj (Option.some.inj e)
    · have up : ∀ y, y < 2 ^ n → y.testBit k = false := fun y hy => Nat.testBit_lt_two_pow (Nat.lt_of_lt_of_le hy (Nat.pow_le_pow_right (by decide) (by omega)))
      rw [up x hx, up x' hx', up z hz, up z' hz']
      exact ⟨rfl, rfl⟩
  exact ⟨Nat.eq_of_testBit_eq fun k => (key k).1, Nat.eq_of_testBit_eq fun k => (key k).2⟩
theorem put_bit {x i : Nat} (b : Bool) (h : x < 2 ^ i) : (x ||| b.toNat * 2 ^ i) < 2 ^ (i + 1) ∧ (∀ k, k < i → (x ||| b.toNat * 2 ^ i).testBit k = x.testBit k) ∧ (x ||| b.toNat * 2 ^ i).testBit i = b := by
  have tb : ∀ k, (b.toNat * 2 ^ i).testBit k = (decide (k = i) && b) := fun k => by
    cases b
    · rw [Bool.toNat_false, Nat.zero_mul, Nat.zero_testBit, Bool.and_false]
    · rw [Bool.toNat_true, Nat.one_mul, Nat.testBit_two_pow, Bool.and_true]
      by_cases e : k = i
      · subst e; simp
      · rw [decide_eq_false e, decide_eq_false (Ne.symm e)]
  refine ⟨?_, fun k hk => ?_, ?_⟩
  · refine Nat.or_lt_two_pow (Nat.lt_of_lt_of_le h (Nat.pow_le_pow_right (by decide) (by omega))) ?_
    cases b
    · rw [Bool.toNat_false, Nat.zero_mul]; exact Nat.two_pow_pos _
    · rw [Bool.toNat_true, Nat.one_mul]; exact Nat.pow_lt_pow_right (by decide) (by omega)
  · rw [Nat.testBit_or, tb, decide_eq_false (by omega), Bool.false_and, Bool.or_false]
  · rw [Nat.testBit_or, tb, decide_eq_true rfl, Bool.true_and, Nat.testBit_lt_two_pow h, Bool.false_or]
theorem signs_put {x z i : Nat} (b d : Bool) (hx : x < 2 ^ i) (hz : z < 2 ^ i) : signs (x ||| b.toNat * 2 ^ i) (z ||| d.toNat * 2 ^ i) (i + 1) = signs x z i ++ [sg b d] := by
  obtain ⟨_, e1, e2⟩ := put_bit b hx
  obtain ⟨_, e3, e4⟩ := put_bit d hz
  rw [signs_succ, e2, e4]
  congr 1
  unfold signs
  refine List.map_congr_left fun k hk => ?_
  have := List.mem_range.mp hk
  rw [e1 k this, e3 k this]
/-- what reads as a row -/
def Good (l : List Nat) : Prop := 2 ≤ l.length ∧ l.length ≤ 41 ∧ (l[0]? = some 43 ∨ l[0]? = some 45) ∧ ∀ c ∈ l.drop 1, c ∈ [46, 120, 122, 121]
def minus (m : Nat) : Nat := if m = 1 then 45 else 43
theorem word_good {m x z n : Nat} (h1 : 1 ≤ n) (h2 : n ≤ 40) : Good (minus m :: signs x z n) := by
  refine ⟨?_, ?_, ?_, fun c hc => (signs_mem hc).1⟩
  · rw [List.length_cons, signs_len]; omega
  · rw [List.length_cons, signs_len]; omega
  · show some (minus m) = some 43 ∨ some (minus m) = some 45
    unfold minus
    split
    · exact .inr rfl
    · exact .inl rfl
theorem find_sign {c j : Nat} (h : [46, 120, 122, 121][j]? = some c) : j < 4 ∧ c = sg (j.testBit 0) (j.testBit 1) := by
  rcases j with _ | _ | _ | _ | j
  · cases h; exact ⟨by decide, rfl⟩
  · cases h; exact ⟨by decide, rfl⟩
  · cases h; exact ⟨by decide, rfl⟩
  · cases h; exact ⟨by decide, rfl⟩
  · simp at h
theorem at_sg (b d : Bool) : atI [46, 120, 122, 121] (bI b + 2 * bI d) = some (sg b d) := by cases b <;> cases d <;> rfl
end Tw
namespace L2
open PySem PySem.Spec PyProof.Rows
theorem st_shr1 {n : Nat} {H : Hp} {Q : VK} (c : n < 4) (h : Q (.int (Tw.bI (n.testBit 1))) H) : rI (fun _ j => 0 ≤ j) (fun i j => .int (i / 2 ^ j.toNat)) (.int (n : Int)) (.int 1) H Q := st_i (by omega) (by
  have : ∀ n : Fin 4, ((n.val : Nat) : Int) / 2 ^ (1 : Int).toNat = Tw.bI (n.val.testBit 1) := by decide
  have e := this ⟨n, c⟩
  dsimp only at e
  rw [e]; exact h)
theorem at_zero (s : Nat) (ss : List Nat) : atI (s :: ss) 0 = some s := atI_nat (j := 0) rfl
theorem cut_from1 (l : List Nat) : cutN l (some 1) none = l.drop 1 := by
  unfold cutN
  rw [HT.sIx_none, show (1 : Int) = ((1 : Nat) : Int) from rfl, HT.sIx_nat]
  by_cases h : l.length = 0
  · have : l = [] := List.eq_nil_of_length_eq_zero h
    subst this; rfl
  · rw [Nat.min_eq_left (by omega)]
    exact List.take_of_length_le (by rw [List.length_drop]; omega)
theorem cut_len (l : List Nat) (lo hi : Option Int) : (cutN l lo hi).length ≤ l.length := by
  unfold cutN
  rw [List.length_take, List.length_drop]
  omega
end L2

set_option Elab.async false
set_option linter.all false
set_option maxRecDepth 100000
namespace L2
open PySem PySem.Spec PyProof.Rows
/-! A dict walked by its items: it is frozen while it is walked, and thawed behind the loop. -/
section
variable {X : Cx} {pins : List (Addr × Obj)} {σ : St} {H : Hp} {s : Shared} {a : Addr} {kvs : List (Key × V)} {o : Obj}
end
/-- the items of the frozen dict at a -/
def Itd (a : Addr) (o : Obj) (kvs : List (Key × V)) : It :=
  ⟨fun i H => H a = some (.frz o (.dK kvs)) ∧ i < kvs.length, fun i H x H' => ∃ T k v, H T = none ∧ x = .ref T ∧ kvs[i]? = some (k, v) ∧ H' = upd H T (.tup [kV k, v]), fun i H => H a = some (.frz o (.dK kvs)) ∧ kvs.length ≤ i⟩
section
variable {X : Cx}
/-- d.items() as it is walked: d is frozen from here on -/
def iItems (tl : TE) : TI := fun σ H R => tl σ H fun x H1 => ∃ a kvs, x = .ref a ∧ ((H1 a = some (.dK kvs) ∧ ∀ o, R (Itd a o kvs) (upd H1 a (.frz o (.dK kvs)))) ∨ ∃ o, H1 a = some (.frz o (.dK kvs)) ∧ R (Itd a o kvs) H1)
/-- ends behind a thaw of a -/
def Ends.thaw (a : Addr) (kvs : List (Key × V)) (D : Ends) : Ends :=
  ⟨fun σ H => ∃ o, H a = some (.frz o (.dK kvs)) ∧ D.nx σ (upd H a (.dK kvs)), fun v H => ∃ o, H a = some (.frz o (.dK kvs)) ∧ D.rt v (upd H a (.dK kvs)),
   fun σ H => ∃ o, H a = some (.frz o (.dK kvs)) ∧ D.bk σ (upd H a (.dK kvs)), fun σ H => ∃ o, H a = some (.frz o (.dK kvs)) ∧ D.ct σ (upd H a (.dK kvs))⟩
def tThaw (t : TS) : TS := fun D σ H => t D σ H ∨ ∃ a kvs, H a = some (.dK kvs) ∧ t (D.thaw a kvs) σ H
end
/-! steps -/
end L2

set_option Elab.async false
set_option linter.all false
set_option maxRecDepth 100000
set_option maxHeartbeats 1000000
namespace L2
open PySem PySem.Spec PyProof.Rows
open PySem.SeqAt (EqAt)
section
variable {prog : Program} {w : World} {A : Around} {E : Value → Shared → Prop} {s : Shared} {a b : Addr} {kvs kvs2 : List (Key × Value)} {nm : String}
end

def Flat8 (d : PyData) : Prop := d.canLay0 = true ∧ d.depth ≤ 8
/-- whether two dicts are the same, their values told as data by their keys -/
def sameD (kvs kvs2 : List (Key × V)) (f g : Key → PyData) : Bool := decide (kvs.length = kvs2.length) && kvs.all fun p => (valV kvs2 p.1).isSome && PyData.eqv (f p.1) (g p.1)
def rEqM (neg : Bool) (K : PySem.W.Frag) : R2 := fun x y H Q => ∃ a b kvs kvs2 f g, x = .ref a ∧ y = .ref b ∧ Rd H a (.dK kvs) ∧ Rd H b (.dK kvs2) ∧ (∀ k x, (k, x) ∈ kvs → DV K H x (f k) ∧ Flat8 (f k)) ∧ (∀ k x, (k, x) ∈ kvs2 → DV K H x (g k) ∧ Flat8 (g k)) ∧
  Q (.bl (sameD kvs kvs2 f g ^^ neg)) H
section
variable {X : Cx} {pins : List (Addr × Obj)} {σ : St} {H : Hp} {s : Shared} {a b : Addr} {kvs kvs2 : List (Key × V)} {f g : Key → PyData}
end
end L2

set_option Elab.async false
set_option linter.all false
set_option maxRecDepth 100000
namespace L2
open PySem PySem.Spec PyProof.Rows
/-! dict(d), d.clear(); steps over dicts whose keys are ints -/
section
variable {X : Cx}
def rDict : List V → Hp → VK → Prop := fun xs H Q => ∃ a kvs, xs = [.ref a] ∧ Rd H a (.dK kvs) ∧ ∀ p, H p = none → Q (.ref p) (upd H p (.dK kvs))
def rDClear : V → List V → Hp → VK → Prop := fun x vs H Q => ∃ a kvs, x = .ref a ∧ vs = [] ∧ H a = some (.dK kvs) ∧ Q .non (upd H a (.dK []))
end
section
variable {K : PySem.W.Frag} {H : Hp} {Q : VK} {a b : Addr} {kvs kvs2 : List (Key × V)} {σ : St} {td ty tx tv : TE}
/-- what stands at i -/
abbrev atZ (kvs : List (Key × V)) (i : Int) : Option V := valV kvs (.inl i)
end
/-- a pair of numbers as data -/
def pairD (p : Int × Int) : PyData := .tuple ([p.1, p.2].map PyData.int)
end L2

set_option Elab.async false
set_option linter.all false
set_option maxRecDepth 100000
namespace L2
open PySem PySem.Spec PyProof.Rows
/-! Own classes: made by their name, methods by the class of the instance, methods by the class's name, tables of texts, min and max. -/
/-- a class of the text that is made by its name -/
structure KCal (P : Program) (w : World) (K : PySem.W.Frag) (mg : Str → Option Value) (base : Heap) (CX : CXT) (k : Nat) (x : Str) (C : Addr) (ps : List Str) (sp : Sp) : Prop where
  ex : ∃ f fd, Mk K C f ∧ FnOk P w K mg base CX k f fd ps sp ∧ Binds K fd ps [] ∧ mg x = some (.ref C)
/-- a method of the class at C -/
structure MCal (P : Program) (w : World) (K : PySem.W.Frag) (mg : Str → Option Value) (base : Heap) (CX : CXT) (k : Nat) (C : Addr) (m : Str) (ps : List Str) (sp : Sp) : Prop where
  cl : Cls K C
  ex : ∃ f fd, Meth K C m f ∧ FnOk P w K mg base CX k f fd ps sp ∧ Binds K fd ps []
/-- a def of a class, asked for by the class's name -/
structure CMeth (K : PySem.W.Frag) (C : Addr) (m : Str) (f : Addr) : Prop where
  g : PySem.W.specialIn K (.ref C) "__getattribute__" = some (some (.builtin "type.__getattribute__"))
  r : PySem.W.readsIn K C (.type "type") = true
  e : PySem.W.findCls K (.ref C) (.type "type") m = some (.val (.ref f))
  kp : PySem.W.keepIn K (.ref f) = true
structure CCal (P : Program) (w : World) (K : PySem.W.Frag) (mg : Str → Option Value) (base : Heap) (CX : CXT) (k : Nat) (x m : Str) (ps : List Str) (sp : Sp) : Prop where
  ex : ∃ C f fd, mg x = some (.ref C) ∧ CMeth K C m f ∧ FnOk P w K mg base CX k f fd ps sp ∧ Binds K fd ps []
section
variable {X : Cx} {CX : CXT} {j k : Nat} {C : Addr} {ps : List Str} {sp : Sp} {E : XK} {x m : Str} {p pos apos : Pos} {e o : Expr} {es : List Expr} {ta : TE} {t : TA}
theorem pe_new (c : KCal X.prog X.w X.K X.mg X.base CX k x C ps sp) (hr : Room j X.A) (hx : Passes CX X E) (ha : PA X (e :: es) t) (hk : k + 1 ≤ j := by decide) (hg : Gl X x := by rfl) (hdb : (x == ("__debug__" : Str)) = false := by decide)
    (he : starEach (e :: es) X.env = (false, eval e X.env) :: starEach es X.env := by rfl) (hpl : (backTo pos (starEach es X.env)).any (·.1) = false := by rfl) :
    PE X (.Call (.Name x p) (e :: es) [] pos) (tMake C sp [] E t) := by
  obtain ⟨f, fd, M, F, b, m⟩ := c.ex
  exact pe_make M F (hr.mono hk) hg m b .nil hx ha hdb he hpl
/-- C.m(..), C the class's name -/
theorem pe_cm {pl : Sem Bool} (c : CCal X.prog X.w X.K X.mg X.base CX k x m ps sp) (hr : Room j X.A) (hx : Passes CX X E) (ha : PA X (e :: es) t) (hk : k ≤ j := by decide) (hg : Gl X x := by rfl) (hdb : (x == ("__debug__" : Str)) = false := by decide)
    (hst : starEach (e :: es) X.env = (false, eval e X.env) :: starEach es X.env := by rfl) (hpl : (backTo pos (starEach es X.env)).any (·.1) = false := by rfl)
    (ht : eval (.Call (.Attribute (.Name x p) m apos) (e :: es) [] pos) X.env = (do
      let ov ← eval (.Name x p) X.env
      standAt apos.atName
      let (f, first) ← holding [ov] (getMethod ov m pl)
      callWith pos f first (backTo pos (starEach (e :: es) X.env)) (backToKw pos (keywordEach [] X.env))) := by rfl) :
    PE X (.Call (.Attribute (.Name x p) m apos) (e :: es) [] pos) (tCall sp [] E t) := by
  intro pins s σ H Q I h
  obtain ⟨C, f, fd, hm, cm, F, b⟩ := c.ex
  refine PySem.W.methodCall_KW (pl := pl) (ld_glob I hg hm ?_ hdb) ht
  refine PySem.W.method_cls I.kIn cm.g (PySem.W.cls_value I.kIn cm.r cm.e rfl ?_)
  refine PySem.W.callWith_K (first := []) (h₀ := X.base) I.ok.mod.kin cm.kp (thn (ha pos pins _ σ H _ (I.tok _) h) fun us s2 ⟨vs, H2, I2, r, q2⟩ => ⟨I2.kIn, ?_⟩) hst hpl
  exact run_fn F (hr.mono hk) b .nil hx I2 r q2
/-! ### a table of the module: texts to ints -/
def Tab (K : PySem.W.Frag) (a : Addr) (D : List (Str × Int)) : Prop := KTD.tabLook (KTD.datLooks fun b => K.lookup b) (fun b => K.lookup b) a (D.map fun p => (p.1, KTD.Dat.flat (.int p.2))) = true
def GTab (K : PySem.W.Frag) (mg : Str → Option Value) (x : Str) (a : Addr) (D : List (Str × Int)) : Prop := mg x = some (.ref a) ∧ Tab K a D
theorem pe_gt {a : Addr} {D : List (Str × Int)} (h : GTab X.K X.mg x a D) (hg : Gl X x := by rfl) (hd : (x == ("__debug__" : Str)) = false := by decide) : PE X (.Name x pos) (tC (.ref a)) := pe_glob hg h.1 rfl hd
def tabAt (k : Str) (D : List (Str × Int)) : Option Int := KTD.datumAt k D
theorem tab_keys {k : Str} : ∀ D : List (Str × Int), KTD.inKeys k (D.map fun p => (p.1, KTD.Dat.flat (.int p.2))) = (KTD.datumAt k D).isSome := by
  intro D
  rw [← KTD.isSome_datumAt]
  induction D with
  | nil => rfl
  | cons p D ih =>
    rw [List.map_cons]
    unfold KTD.datumAt
    by_cases hk : k = p.1
    · simp only [hk]
      rfl
    · simp only [hk]
      exact ih
theorem tab_datum {k : Str} {d : KTD.Dat} : ∀ D : List (Str × Int), KTD.datumAt k (D.map fun p => (p.1, KTD.Dat.flat (.int p.2))) = some d → ∃ i, KTD.datumAt k D = some i ∧ d = .flat (.int i) := by
  intro D
  induction D with
  | nil => intro h; cases h
  | cons p D ih =>
    rw [List.map_cons]
    unfold KTD.datumAt
    by_cases hk : k = p.1
    · simp only [hk]
      intro h
      exact ⟨p.2, rfl, (Option.some.inj h).symm⟩
    · simp only [hk]
      exact ih
def rInTab (K : PySem.W.Frag) (neg : Bool) : R2 := fun x y H Q => ∃ k a D, x = .str k ∧ y = .ref a ∧ Tab K a D ∧ Q (.bl (neg != (tabAt k D).isSome)) H
theorem op_notInTab : OpR X (compareOp .NotIn) (rInTab X.K true) := by
  intro pins s σ H x y v u Q I rx ry h
  obtain ⟨k, a, D, rfl, rfl, hT, q⟩ := h
  obtain ⟨t, rfl⟩ := rx
  cases ry
  refine KTD.notin_text ⟨PySem.W.kt_text_in I.kIn hT, fun _ _ z => z⟩ ⟨.bl _, H, I.tok _, rfl, ?_⟩
  rw [tab_keys]
  have e : (true != (tabAt k D).isSome) = !(KTD.datumAt k D).isSome := by unfold tabAt; cases (KTD.datumAt k D).isSome <;> rfl
  rw [e] at q
  exact q
def rIxTab (K : PySem.W.Frag) : R2 := fun x y H Q => ∃ k a D i, x = .ref a ∧ y = .str k ∧ Tab K a D ∧ tabAt k D = some i ∧ Q (.int i) H
theorem plain_tab : ∀ D : List (Str × Int), ((D.map fun p => (p.1, KTD.Dat.flat (.int p.2))).all fun p => KTD.plain p.2) = true := by
  intro D
  induction D with
  | nil => rfl
  | cons p D ih => rw [List.map_cons, List.all_cons, ih]; rfl
theorem ix_tab : IxR X (rIxTab X.K) := by
  intro value slice pins s σ H x y v u Q I rx ry h hs
  obtain ⟨k, a, D, i, rfl, rfl, hT, hi, q⟩ := h
  cases rx
  obtain ⟨t, rfl⟩ := ry
  have T : KTD.Here s.heap s.heap a (D.map fun p => (p.1, KTD.Dat.flat (.int p.2))) := ⟨PySem.W.kt_text_in I.kIn hT, fun _ _ z => z⟩
  refine subscriptTail_builtin_flat T.typeIs slot_dict_getitem.lookup ?_ hs
  unfold getItem
  try with_reducible refine wpAny_holding ?_
  refine wpAny_bind (wpAny_sequenceKey T.typeIs (by decide) ?_)
  refine wpAny_bind (wpAny_callSpecial?_slot (name := Str.ofString "__getitem__") T.typeIs slot_dict_getitem
    (wpAny_call_entry slot_dict_getitem T.typeIs entry_dict_getitem ?_ (args_dict_getitem _ _)))
  show wpAny _ _ (dictGet a (.str k t) >>= _) _ _ s
  refine wpAny_bind (KTD.dictGet_text T (fun d v ha hv => wpAny_pure ⟨v, rfl, wpAny_pure ⟨KTD.notRef_of_plain (KTD.plain_at (plain_tab D) ha) hv, ?_⟩⟩) fun hn => absurd hn (KTD.at_of_mem (by rw [tab_keys]; show (tabAt k D).isSome = true; rw [hi]; rfl)))
  obtain ⟨i', e1, rfl⟩ := tab_datum D ha
  have e2 : i' = i := by
    have e3 : KTD.datumAt k D = some i := hi
    rw [e3] at e1
    exact (Option.some.inj e1).symm
  subst e2
  have hv' : PyProof.V.Flat v (.int i') := hv
  obtain ⟨t', rfl⟩ := hv'.int_inv
  exact ⟨.int i', H, I.tok _, ⟨_, rfl⟩, q⟩
/-! ### min, max of a tuple or list of ints -/
end
theorem ints_items : ∀ {ns : List Int} {us : List Value}, Vals (ns.map V.int) us → ∃ xs : Array (Int × Tok), us.toArray = intItems xs ∧ xs.toList.map (·.1) = ns
  | [], [], _ => ⟨#[], by simp [intItems], rfl⟩
  | n :: ns, u :: us, r => by
    cases r with
    | cons r1 r2 =>
      obtain ⟨t, rfl⟩ := r1
      obtain ⟨xs, e1, e2⟩ := ints_items r2
      refine ⟨((n, t) :: xs.toList).toArray, ?_, ?_⟩
      · have e3 : us = (intItems xs).toList := by rw [← e1]
        rw [e3]
        simp [intItems]
      · simp [e2]
def rBest (K : PySem.W.Frag) (le : Int → Int → Prop) : List V → Hp → VK → Prop := fun xs H Q => ∃ (p : Addr) (ns : List Int), xs = [.ref p] ∧ (SqL K H p (ns.map V.int) ∨ SqT K H p (ns.map V.int)) ∧ 0 < ns.length ∧ ∀ M, M ∈ ns → (∀ a ∈ ns, le a M) → Q (.int M) H
section
variable {X : Cx} {s : Shared} {A : Around} {E : Value → Shared → Prop}
theorem best_fin {pins : List (Addr × Obj)} {σ : St} {H : Hp} {Q : VK} {ns : List Int} {xs : Array (Int × Tok)} {num : Nat → Nat → Bool} {le : Int → Int → Prop} (I : Inv X pins σ H s) (ex : xs.toList.map (·.1) = ns) (hne : 0 < ns.length)
    (hb : argBest num (xs.size - 1) ≤ xs.size - 1 ∧ ∀ j, j ≤ xs.size - 1 → le (numAt xs j) (numAt xs (argBest num (xs.size - 1)))) (q : ∀ M, M ∈ ns → (∀ a ∈ ns, le a M) → Q (.int M) H)
    {v : Value} {h' : Heap} {tk : Nat} (hv : (intItems xs)[argBest num (xs.size - 1)]? = some v) (hk : ∀ b o, s.heap.get? b = some o → h'.get? b = some o) : EP X pins σ Q v { s with heap := h', toks := tk } := by
  obtain ⟨t, rfl⟩ := intItems_at hv
  have hsz : 0 < xs.size := by
    rw [← ex, List.length_map, Array.length_toList] at hne
    exact hne
  refine ⟨.int _, H, I.kept hk, ⟨_, rfl⟩, q _ ?_ fun a ha => ?_⟩
  · rw [← ex, numAt_eq]; exact getD_mem (by rw [List.length_map, Array.length_toList]; omega)
  · rw [← ex] at ha
    obtain ⟨j, hj, rfl⟩ := mem_getD ha
    rw [List.length_map, Array.length_toList] at hj
    rw [← numAt_eq]; exact hb.2 j (by omega)
theorem tup_kept {l : Addr} {xs : Array (Int × Tok)} (hT : s.heap.IsTuple l (intItems xs)) {h' : Heap} (hk : ∀ b o, b ∉ [s.heap.objs.size] → (s.heap.push { cls := .type "tuple_iterator", data := .fields #[.ref l, .int 0 0] }).get? b = some o → h'.get? b = some o) :
    ∀ b o, s.heap.get? b = some o → h'.get? b = some o := fun b o e => by
  refine hk b o (fun hm => ?_) (Heap.get?_push_of_some _ e)
  rcases List.mem_cons.mp hm with e1 | hm
  · exact absurd (e1 ▸ Heap.lt_size e) (Nat.lt_irrefl _)
  · cases hm
theorem best_pre {ns : List Int} {xs : Array (Int × Tok)} (ex : xs.toList.map (·.1) = ns) (hne : 0 < ns.length) : 0 < xs.size := by
  rw [← ex, List.length_map, Array.length_toList] at hne
  exact hne
theorem call_maxL (hc : X.calm = true) : CallR X (.builtin "max") (rBest X.K fun a M => a ≤ M) := by
  intro pins s σ H xs us Q I r h
  obtain ⟨p, ns, rfl, hs, hne, q⟩ := h
  obtain ⟨u, rfl, ru⟩ := vals1 r
  cases ru
  rcases hs with hs | hs
  · obtain ⟨its, ri, pl, _⟩ := I.list hs
    obtain ⟨xs, e1, e2⟩ := ints_items ri
    have hl : s.heap.IsList p (intItems xs) := by rw [← e1]; exact pl.isList
    exact max_intList (I.ok.hd hc) hl (best_pre e2 hne) fun v h' tk hv hk => best_fin I e2 hne (argBest_gt (numAt xs) (xs.size - 1)) q hv hk
  · obtain ⟨its, ri, pl, _⟩ := I.tuple hs
    obtain ⟨xs, e1, e2⟩ := ints_items ri
    have hT : s.heap.IsTuple p (intItems xs) := by rw [← e1]; exact pl
    have hlt : p < s.heap.objs.size := by obtain ⟨_, e, _⟩ := hT; exact Heap.lt_size e
    refine call_max_walk (wpAny_pyIter_tuple hT ?_)
    refine ⟨_, [_, p], [_], _, _, _, _, rfl, Walks.tuple (A := X.A.in1) (I.ok.hd hc) _ p (Nat.ne_of_lt hlt) (intItems xs), ⟨⟨_, Heap.get?_push_size _ rfl, rfl, rfl⟩, hT.push _⟩, fun c hc' => ?_,
      by simpa [intItems] using best_pre e2 hne, CmpOf.ints_gt (numAt xs) (fun _ _ => intItems_at), fun v h' tk hP hk => ?_⟩
    · show c < (s.heap.push _).objs.size
      rw [Heap.size_push]
      rcases List.mem_cons.mp hc' with rfl | hc'
      · exact Nat.lt_succ_self _
      · rcases List.mem_cons.mp hc' with rfl | hc'
        · exact Nat.lt_succ_of_lt hlt
        · cases hc'
    · exact best_fin I e2 hne (argBest_gt (numAt xs) (xs.size - 1)) q (by simpa [intItems] using hP) (tup_kept hT hk)
theorem call_minL (hc : X.calm = true) : CallR X (.builtin "min") (rBest X.K fun a M => M ≤ a) := by
  intro pins s σ H xs us Q I r h
  obtain ⟨p, ns, rfl, hs, hne, q⟩ := h
  obtain ⟨u, rfl, ru⟩ := vals1 r
  cases ru
  rcases hs with hs | hs
  · obtain ⟨its, ri, pl, _⟩ := I.list hs
    obtain ⟨xs, e1, e2⟩ := ints_items ri
    have hl : s.heap.IsList p (intItems xs) := by rw [← e1]; exact pl.isList
    exact min_intList (I.ok.hd hc) hl (best_pre e2 hne) fun v h' tk hv hk => best_fin (le := fun a M => M ≤ a) I e2 hne (argBest_lt (numAt xs) (xs.size - 1)) q hv hk
  · obtain ⟨its, ri, pl, _⟩ := I.tuple hs
    obtain ⟨xs, e1, e2⟩ := ints_items ri
    have hT : s.heap.IsTuple p (intItems xs) := by rw [← e1]; exact pl
    have hlt : p < s.heap.objs.size := by obtain ⟨_, e, _⟩ := hT; exact Heap.lt_size e
    refine call_min_walk (wpAny_pyIter_tuple hT ?_)
    refine ⟨_, [_, p], [_], _, _, _, _, rfl, Walks.tuple (A := X.A.in1) (I.ok.hd hc) _ p (Nat.ne_of_lt hlt) (intItems xs), ⟨⟨_, Heap.get?_push_size _ rfl, rfl, rfl⟩, hT.push _⟩, fun c hc' => ?_,
      by simpa [intItems] using best_pre e2 hne, CmpOf.ints_lt (numAt xs) (fun _ _ => intItems_at), fun v h' tk hP hk => ?_⟩
    · show c < (s.heap.push _).objs.size
      rw [Heap.size_push]
      rcases List.mem_cons.mp hc' with rfl | hc'
      · exact Nat.lt_succ_self _
      · rcases List.mem_cons.mp hc' with rfl | hc'
        · exact Nat.lt_succ_of_lt hlt
        · cases hc'
    · exact best_fin (le := fun a M => M ≤ a) I e2 hne (argBest_lt (numAt xs) (xs.size - 1)) q (by simpa [intItems] using hP) (tup_kept hT hk)
end
/-! ### methods of a family of classes -/
def tMethD {ι : Type} (CD : ι → Addr) (spm : ι → Sp) (m : Str) (E : XK) (ta : TE) (t : TA) : TE := fun σ H Q => ta σ H fun x H1 => ∃ a d dx fs, x = .ref a ∧ H1 a = some (.ins (CD d) dx fs) ∧ fs.lookup m = none ∧ t σ H1 fun vs H2 => spm d (x :: vs) H2 Q E
section
variable {X : Cx} {CX : CXT} {j k : Nat} {ι : Type} {CD : ι → Addr} {spm : ι → Sp} {ps : List Str} {E : XK} {m : Str} {pos apos : Pos} {e o : Expr} {es : List Expr} {ta : TE} {t : TA}
theorem pe_md0 {pl : Sem Bool} (hM : ∀ d, MCal X.prog X.w X.K X.mg X.base CX k (CD d) m ps (spm d)) (hr : Room j X.A) (hx : Passes CX X E) (he : PE X o ta) (hk : k ≤ j := by decide)
    (ht : eval (.Call (.Attribute o m apos) [] [] pos) X.env = (do
      let ov ← eval o X.env
      standAt apos.atName
      let (f, first) ← holding [ov] (getMethod ov m pl)
      callWith pos f first (backTo pos (starEach [] X.env)) (backToKw pos (keywordEach [] X.env))) := by rfl) :
    PE X (.Call (.Attribute o m apos) [] [] pos) (tMethD CD spm m E ta tNil) := by
  intro pins s σ H Q I h
  refine PySem.W.methodCall_KW (pl := pl) (thn (he pins s σ H _ I h) fun u s1 ⟨x, H1, I1, rx, a, d, dx, fs, ex, ea, l, q⟩ => ?_) ht
  subst ex
  obtain rfl : u = Value.ref a := rx
  have M := hM d
  obtain ⟨f, fd, hm, F, b⟩ := M.ex
  refine getmeth_ok I1 ea M.cl hm l ?_
  exact PySem.W.callWith_K0 (first := [.ref a]) I1.kIn hm.kp (run_fn (us := [.ref a]) (vs := [.ref a]) (dvs := []) F (hr.mono hk) b .nil hx I1 (.cons rfl .nil) q)
end
/-! ### isinstance of an instance by an own class -/
structure TyC (K : PySem.W.Frag) (C : Addr) : Prop where
  ca : PySem.W.findIn K (.ref C) "__class__" = some (some (.builtin "object.__class__"))
  cg : PySem.W.specialIn K (.builtin "object.__class__") "__get__" = some (some (.builtin "getset_descriptor.__get__"))
  tk : PySem.W.takesIn K (.builtin "object.__class__") = some true
  mo : PySem.W.mroIn K C (.type "object") = some true
section
variable {X : Cx}
end
/-! ### steps -/
theorem boot_max : bootBuiltins "max" = some (.builtin "max") := by decide +kernel
theorem boot_min : bootBuiltins "min" = some (.builtin "min") := by decide +kernel
section
variable {K : PySem.W.Frag} {H : Hp} {Q : VK} {σ : St} {D : Ends} {te ta tv : TE} {tA : TA} {f m : Str} {a C dx : Addr} {fs : List (Str × V)} {v : V}
def rFld (K : PySem.W.Frag) (f : Str) (x : V) (H1 : Hp) (Q : VK) : Prop := ∃ a C dx fs v, x = .ref a ∧ H1 a = some (.ins C dx fs) ∧ Cls K C ∧ NoAttr K C f ∧ fs.lookup f = some v ∧ Q v H1
theorem st_fld (h : ta σ H fun x H1 => rFld K f x H1 Q) : tFld K ta f σ H Q := h
theorem st_fld1 (e : H a = some (.ins C dx fs)) (c : Cls K C) (n : NoAttr K C f) (l : fs.lookup f = some v) (q : Q v H) : rFld K f (.ref a) H Q := ⟨a, C, dx, fs, v, rfl, e, c, n, l, q⟩
def rPut (K : PySem.W.Frag) (f : Str) (D : Ends) (σ : St) (y x : V) (H2 : Hp) : Prop := ∃ a C dx fs, x = .ref a ∧ H2 a = some (.ins C dx fs) ∧ Cls K C ∧ NoAttr K C f ∧ fs.length < 1000 ∧ D.nx σ (upd H2 a (.ins C dx (putF f y fs)))
theorem st_put (h : tv σ H fun y H1 => ta σ H1 fun x H2 => rPut K f D σ y x H2) : sFld K ta tv f D σ H := h
theorem st_put1 {y : V} (e : H a = some (.ins C dx fs)) (c : Cls K C) (n : NoAttr K C f) (l : fs.length < 1000) (q : D.nx σ (upd H a (.ins C dx (putF f y fs)))) : rPut K f D σ y (.ref a) H := ⟨a, C, dx, fs, rfl, e, c, n, l, q⟩
theorem st_make {sp : Sp} {dvs : List V} {E : XK} (h : tA σ H fun vs H1 => ∀ x dx, H1 x = none → H1 dx = none → dx ≠ x → sp (.ref x :: (vs ++ dvs)) (upd (upd H1 dx (.own x)) x (.ins C dx [])) (fun v H2 => v = .non ∧ Q (.ref x) H2) E) : tMake C sp dvs E tA σ H Q := h
def rMeth {ι : Type} (CD : ι → Addr) (m : Str) (x : V) (H1 : Hp) (R : ι → Prop) : Prop := ∃ a d dx fs, x = .ref a ∧ H1 a = some (.ins (CD d) dx fs) ∧ fs.lookup m = none ∧ R d
theorem st_md {ι : Type} {CD : ι → Addr} {spm : ι → Sp} {E : XK} (h : ta σ H fun x H1 => rMeth CD m x H1 fun d => tA σ H1 fun vs H2 => spm d (x :: vs) H2 Q E) : tMethD CD spm m E ta tA σ H Q := h
theorem st_md1 {ι : Type} {CD : ι → Addr} {R : ι → Prop} {d : ι} (e : H a = some (.ins (CD d) dx fs)) (l : fs.lookup m = none) (q : R d) : rMeth CD m (.ref a) H R := ⟨a, d, dx, fs, rfl, e, l, q⟩
end
theorem same_made {H : Hp} {x dx C : Addr} (hx : H x = none) (hd : H dx = none) : Same H (upd (upd H dx (.own x)) x (.ins C dx [])) := fun b o e => by
  rw [upd_ne (ne_of_none e hx), upd_ne (ne_of_none e hd)]
  exact e
end L2

set_option Elab.async false
set_option linter.all false
set_option maxRecDepth 100000
namespace L2
open PySem PySem.Spec PyProof.Rows
/-! A list comprehension of one clause whose target is a pair of names: after TwComp, with two names. -/
/-- what the block's scope must be: its own name x, the rest free (a cell or free where the def stands) or global -/
structure CpScope2 (sc : Scope) (x x2 : Str) (scope : Scope) : Prop where
  kind : scope.kind = .function
  cell : ∀ y ∈ scope.names, y.2 ≠ .cell
  own : scope.names.lookup x = some .local
  own2 : scope.names.lookup x2 = some .local
  loc : ∀ y ∈ scope.names, y.2 = .local → y.1 = x ∨ y.1 = x2 ∨ y.1 = (".0" : Str)
  nam : ∀ y ∈ scope.names, y.2 = .local → scope.names.lookup y.1 = some .local
  free : ∀ y ∈ scope.names, y.2 = .free → sc.names.lookup y.1 = some .cell ∨ sc.names.lookup y.1 = some .free
  two : ∀ y ∈ scope.names, y.2 = .free → y.1 ≠ x ∧ y.1 ≠ x2
/-- the block's context -/
def Cx.comp2 (X : Cx) (M : List Str) (scope : Scope) (x x2 : Str) (C : Addr) (s : Shared) (H : Hp) (ex : List Addr) : Cx :=
  { X with N := x :: x2 :: M, s₀ := s, H₀ := H, env := compEnvC scope (clGo X.env scope.names []) C X.env, outer := X.stack, ex := ex, fn := fun _ => false, pn := [], xe := fun _ _ => False }
section
variable {X : Cx} {M : List Str} {pins : List (Addr × Obj)} {σ : St} {H : Hp} {s : Shared} {scope : Scope} {x x2 : Str}
end
/-- what a comprehension asks: an invariant over the turn, a measure and the list made so far -/
def tComp2 (K : PySem.W.Frag) (wi : TI) (tt : TT) (te : TE) : TE := fun σ H Q => wi σ H fun J H1 => ∃ W : Nat → Nat → List V → Hp → Prop, (∃ m, W 0 m [] H1) ∧ ∀ i m ys H, W i m ys H →
  (J.stop i H ∧ ∀ p, H p = none → Q (.ref p) (upd H p (.lst ys))) ∨
  (J.go i H ∧ ys.length < sizeLine ∧ ∃ N : List V → Hp → Prop, (∀ ys' H', N ys' H' → ∃ m', m' < m ∧ W (i + 1) m' ys' H') ∧
    ∀ x H', J.yld i H x H' → ∃ a v w, x = .ref a ∧ SqT K H' a [v, w] ∧ tt (some v :: some w :: σ) H' fun b H2 => if b = true then te (some v :: some w :: σ) H2 fun y H3 => N (ys ++ [y]) H3 else N ys H2)
section
variable {X : Cx} {M : List Str} {scope : Scope} {x x2 : Str} {px px2 ptg pos : Pos} {tk : Nat} {elt iter : Expr} {ifs : List Expr} {wi : TI} {tt : TT} {te : TE}
end
end L2

set_option Elab.async false
set_option linter.all false
set_option maxRecDepth 100000
namespace L2
open PySem PySem.Spec PyProof.Rows
/-! Steps for own classes, tuples, tables, flat data held against one another. -/
/-- a flat value as data -/
def dV : V → PyData
  | .bl b => .bool b
  | .int i => .int i
  | .str x => .str x
  | _ => .none
/-- flat, and no text with a sign that is none -/
def okV : V → Bool
  | .non => true
  | .bl _ => true
  | .int _ => true
  | .str x => PyData.strOk x
  | _ => false
theorem okV_flat : ∀ {x : V}, okV x = true → flatV x = true
  | .non, _ => rfl
  | .bl b, _ => rfl
  | .int i, _ => rfl
  | .str x, _ => rfl
theorem strOk_of (s : String) : PyData.strOk (Str.ofString s) = true := by
  rw [Str.ofString_eq_toList]
  unfold PyData.strOk
  rw [← Array.all_toList]
  refine List.all_eq_true.mpr fun x hx => ?_
  obtain ⟨c, _, rfl⟩ := List.mem_map.mp hx
  refine decide_eq_true ?_
  have h := c.valid
  have e : c.toNat = c.val.toNat := rfl
  rcases h with h | ⟨_, h⟩
  · have h' : c.val.toNat < 0xd800 := h
    omega
  · have h' : c.val.toNat < 0x110000 := h
    omega
theorem dv_flat {K : PySem.W.Frag} {H : Hp} : ∀ {x : V}, okV x = true → DV K H x (dV x)
  | .non, _ => .non
  | .bl b, _ => .bl b
  | .int i, _ => .int i
  | .str x, _ => .str x
theorem dvs_flat {K : PySem.W.Frag} {H : Hp} : ∀ {xs : List V}, xs.all okV = true → DVs K H xs (xs.map dV)
  | [], _ => .nil
  | x :: xs, h => by
    rw [List.all_cons, Bool.and_eq_true] at h
    exact .cons (dv_flat h.1) (dvs_flat h.2)
theorem dV_lay {x : V} (h : okV x = true) : (dV x).canLay0 = true := by
  cases x <;> first | (simp [dV, PyData.canLay0]; done) | (simp only [dV, PyData.canLay0]; exact h) | cases h
theorem dV_depth (x : V) : (dV x).depth = 0 := by cases x <;> simp [dV, PyData.depth]
theorem dVs_lay : ∀ {xs : List V}, xs.all okV = true → PyData.canLayAll0 (xs.map dV) = true
  | [], _ => rfl
  | x :: r, h => by
    rw [List.all_cons, Bool.and_eq_true] at h
    simp [PyData.canLayAll0, dV_lay h.1, dVs_lay h.2]
theorem dVs_depth : ∀ xs : List V, PyData.depthAll (xs.map dV) = 0
  | [] => rfl
  | x :: r => by simp [PyData.depthAll, dV_depth x, dVs_depth r]
theorem dV_eqv (x : V) : PyData.eqv (dV x) (dV x) = true := by cases x <;> simp [dV, PyData.eqv]
theorem dVs_eqv : ∀ xs : List V, PyData.eqvAll (xs.map dV) (xs.map dV) = true
  | [] => rfl
  | x :: r => by simp [PyData.eqvAll, dV_eqv x, dVs_eqv r]
theorem shapedT {xs : List V} (h : xs.all okV = true) : SeqAt.shaped (.tuple (xs.map dV)) = true := by simp [SeqAt.shaped, PyData.canLay0, PyData.depth, dVs_lay h, dVs_depth]
theorem shapedL {xs : List V} (h : xs.all okV = true) : SeqAt.shaped (.list (xs.map dV)) = true := by simp [SeqAt.shaped, PyData.canLay0, PyData.depth, dVs_lay h, dVs_depth]
section
variable {K : PySem.W.Frag} {H : Hp} {Q : VK} {σ : St} {D : Ends} {a b t u : Addr} {xs ys : List V}
theorem st_slT {lo hi : Option Int} (s : SqT K H a xs) (c : ¬ (HT.sIx xs.length 0 lo = 0 ∧ HT.sIx xs.length xs.length hi = xs.length)) (h : ∀ p, H p = none → Q (.ref p) (upd H p (.tup (cutV xs lo hi)))) : rSlT K (.ref a) lo hi H Q := ⟨a, xs, rfl, s, c, h⟩
theorem st_bestT {le : Int → Int → Prop} {ns : List Int} (s : SqT K H a (ns.map V.int)) (h0 : 0 < ns.length) (q : ∀ M, M ∈ ns → (∀ a ∈ ns, le a M) → Q (.int M) H) : rBest K le [.ref a] H Q := ⟨a, ns, rfl, .inr s, h0, q⟩
theorem st_bestL {le : Int → Int → Prop} {ns : List Int} (s : SqL K H a (ns.map V.int)) (h0 : 0 < ns.length) (q : ∀ M, M ∈ ns → (∀ a ∈ ns, le a M) → Q (.int M) H) : rBest K le [.ref a] H Q := ⟨a, ns, rfl, .inl s, h0, q⟩
theorem st_inTab {neg : Bool} {k : Str} {T : List (Str × Int)} (h : Tab K a T) (q : Q (.bl (neg != (tabAt k T).isSome)) H) : rInTab K neg (.str k) (.ref a) H Q := ⟨k, a, T, rfl, rfl, h, q⟩
theorem st_ixTab {k : Str} {T : List (Str × Int)} {i : Int} (h : Tab K a T) (e : tabAt k T = some i) (q : Q (.int i) H) : rIxTab K (.ref a) (.str k) H Q := ⟨k, a, T, i, rfl, rfl, h, e, q⟩
def rIntB : List V → Hp → VK → Prop := fun xs H Q => ∃ k, xs = [.bl k] ∧ Q (.int (Tw.bI k)) H
end
section
variable {X : Cx}
end
theorem ite_t {c A B : Prop} [Decidable c] (h : c) (a : A) : if decide c = true then A else B := by
  rw [decide_eq_true h]
  exact iteT a
theorem ite_f {c A B : Prop} [Decidable c] (h : ¬ c) (b : B) : if decide c = true then A else B := by
  rw [decide_eq_false h]
  exact iteF b
theorem cut1 (x : V) (xs : List V) : cutV (x :: xs) (some 1) none = xs := by
  unfold cutV
  rw [HT.sIx_none, show (some (1 : Int)) = some ((1 : Nat) : Int) from rfl, HT.sIx_nat]
  simp
section
variable {K : PySem.W.Frag} {H : Hp} {Q : VK} {a : Addr} {xs : List V}
theorem st_tl {x : V} (s : SqT K H a (x :: xs)) (h : ∀ p, H p = none → Q (.ref p) (upd H p (.tup xs))) : rSlT K (.ref a) (some 1) none H Q :=
  st_slT s (fun z => by rw [show (some (1 : Int)) = some ((1 : Nat) : Int) from rfl, HT.sIx_nat] at z; have := z.1; simp at this) (by rw [cut1]; exact h)
end
theorem same_init {H : Hp} {x dx t C : Addr} {o o2 : HO} (hx : H x = none) (hd : H dx = none) (ht : (upd (upd H dx (.own x)) x (.ins C dx [])) t = none) : Same H (upd (upd (upd (upd H dx (.own x)) x (.ins C dx [])) t o) x o2) := by
  intro b u e
  have e2 := same_made (C := C) hx hd b u e
  rw [upd_ne (ne_of_none e hx), upd_ne (ne_of_none e2 ht)]
  exact e2
theorem at0 (x : V) (xs : List V) : atI (x :: xs) 0 = some x := atI_nat (j := 0) rfl
theorem at1 (x y : V) (xs : List V) : atI (x :: y :: xs) 1 = some y := atI_nat (j := 1) rfl
/-- H' is H with another list at l -/
structure App (l : Addr) (H H' : Hp) : Prop where
  ex : ∃ xs ys, H l = some (.lst xs) ∧ H' = upd H l (.lst ys)
theorem all_get {f : V → Bool} {xs : List V} (h : xs.all f = true) {i : Nat} {x : V} (e : xs[i]? = some x) : f x = true := List.all_eq_true.mp h _ (List.mem_of_getElem? e)
theorem take_succ_of {α : Type} {xs : List α} {i : Nat} {x : α} (e : xs[i]? = some x) : xs.take (i + 1) = xs.take i ++ [x] := by
  rw [List.take_add_one, e]
  rfl
theorem all_id_map {xs : List V} {f : V → Bool} : (xs.map f).all id = xs.all f := by
  rw [List.all_map]
  rfl
theorem int_get {is : List Int} {i : Nat} {x : V} (e : (is.map V.int)[i]? = some x) : ∃ j, x = .int j := by
  rw [List.getElem?_map] at e
  cases h : is[i]? with
  | none => rw [h] at e; cases e
  | some j => rw [h] at e; exact ⟨j, (Option.some.inj e).symm⟩
theorem all_replicate (n : Nat) : (List.replicate n true).all id = true := by simp
theorem len1 {is : List Int} (h : is.length = 1) : ∃ i, is = [i] := by
  match is, h with
  | [i], _ => exact ⟨i, rfl⟩
theorem len2 {is : List Int} (h : is.length = 2) : ∃ i j, is = [i, j] := by
  match is, h with
  | [i, j], _ => exact ⟨i, j, rfl⟩
/-- a comprehension over a tuple that the clause itself makes -/
def sCompT (K : PySem.W.Frag) (tt : TT) (te : TE) (σ : St) (Q : VK) : V → Hp → Prop := fun x H1 => ∃ a, x = .ref a ∧ (∃ xs, SqT K H1 a xs) ∧ ∃ W : Nat → Nat → List V → Hp → Prop, (∃ m, W 0 m [] H1) ∧ ∀ i m ys H, W i m ys H →
  ((Itt K a).stop i H ∧ ∀ p, H p = none → Q (.ref p) (upd H p (.lst ys))) ∨
  ((Itt K a).go i H ∧ ys.length < sizeLine ∧ ∃ N : List V → Hp → Prop, (∀ ys' H', N ys' H' → ∃ m', m' < m ∧ W (i + 1) m' ys' H') ∧
    ∀ x H', (Itt K a).yld i H x H' → tt (some x :: σ) H' fun b H2 => if b = true then te (some x :: σ) H2 fun y H3 => N (ys ++ [y]) H3 else N ys H2)
section
variable {K : PySem.W.Frag} {a : Addr} {xs : List V} {tl te : TE} {tt : TT} {Q : VK} {σ : St} {H : Hp}
theorem st_compE (h : tl σ H (sCompT K tt te σ Q)) : tComp (iTup K tl) tt te σ H Q := h
theorem st_compAt (s : SqT K H a xs) (Pv : Nat → List V → Hp → Prop) (hn : xs.length ≤ 1000) (h0 : Pv 0 [] H) (hl : ∀ i ys H, Pv i ys H → ys.length ≤ i) (hk : ∀ i ys H, Pv i ys H → SqT K H a xs)
    (hs : ∀ i x ys H, xs[i]? = some x → Pv i ys H → tt (some x :: σ) H fun b H2 => if b = true then te (some x :: σ) H2 fun y H3 => Pv (i + 1) (ys ++ [y]) H3 else Pv (i + 1) ys H2)
    (hd : ∀ ys H, Pv xs.length ys H → ∀ p, H p = none → Q (.ref p) (upd H p (.lst ys))) : sCompT K tt te σ Q (.ref a) H := ⟨a, rfl, ⟨xs, s⟩, comp_tup Pv hn h0 hl hk hs hd⟩
end
end L2

set_option Elab.async false
set_option linter.all false
set_option maxRecDepth 100000
namespace L2
open PySem PySem.Spec PyProof.Rows
/-! Bits against numbers and bits. -/
section
variable {H : Hp} {Q : VK} {n m : Nat} {p q : Bool}
end
end L2

set_option Elab.async false
set_option linter.all false
set_option maxRecDepth 100000
namespace Tw
open PySem L2
/-! Deeds: their words, the objects, the refusals. -/
inductive DK where
  | over | quarter | back | both | wher | swap
  deriving DecidableEq
def DK.word : DK → Str
  | .over => "over" | .quarter => "quarter" | .back => "back" | .both => "both" | .wher => "where" | .swap => "swap"
def DK.undo : DK → Str
  | .over => "over" | .quarter => "back" | .back => "quarter" | .both => "both" | .wher => "where" | .swap => "swap"
def DK.n : DK → Nat
  | .over => 1 | .quarter => 1 | .back => 1 | .both => 1 | .wher => 2 | .swap => 2
def DK.inv : DK → DK
  | .quarter => .back | .back => .quarter | k => k
def tabW : List (Str × Int) := [("over", 1), ("quarter", 1), ("back", 1), ("both", 1), ("where", 2), ("swap", 2)]
theorem tab_word (k : DK) : tabAt k.word tabW = some (k.n : Int) := by cases k <;> decide +kernel
theorem word_inj {a b : DK} (h : a.word = b.word) : a = b := by revert h; cases a <;> cases b <;> first | (intro; rfl) | (intro h; exact absurd h (by decide +kernel))
theorem word_ok (k : DK) : PyData.strOk k.word = true := by cases k <;> exact strOk_of _
theorem DK.n_pos (k : DK) : 0 < k.n ∧ k.n ≤ 2 := by cases k <;> decide
def vn (l : List Nat) : List V := l.map fun k => V.int ((k : Nat) : Int)
theorem vn_ints (l : List Nat) : vn l = (l.map fun k : Nat => (k : Int)).map V.int := by unfold vn; rw [List.map_map]; rfl
theorem vn_flat : ∀ l : List Nat, (vn l).all okV = true
  | [] => rfl
  | _ :: r => vn_flat r
theorem words_ok (k : DK) (l : List Nat) : (V.str k.word :: vn l).all okV = true := by
  rw [List.all_cons, vn_flat, Bool.and_true]
  exact word_ok k
theorem ints_flat : ∀ l : List Int, (l.map V.int).all okV = true
  | [] => rfl
  | _ :: r => ints_flat r
theorem vn_len (l : List Nat) : (vn l).length = l.length := by unfold vn; rw [List.length_map]
/-- a deed: its kind, its wires -/
structure Dd where
  k : DK
  w : List Nat
structure Dd.Ok (d : Dd) (n : Nat) : Prop where
  len : d.w.length = d.k.n
  lt : ∀ x ∈ d.w, x < n
  nd : d.w.Nodup
def flds (k : DK) (t : Addr) : List (Str × V) := [("word", .str k.word), ("undoer", .str k.undo), ("at", .ref t)]
theorem flds_at (k : DK) (t : Addr) : (flds k t).lookup ("at" : Str) = some (.ref t) := by
  unfold flds
  rw [List.lookup_cons, show (("at" : Str) == "word") = false by decide +kernel]
  show List.lookup ("at" : Str) [(("undoer" : Str), V.str k.undo), ("at", .ref t)] = _
  rw [List.lookup_cons, show (("at" : Str) == "undoer") = false by decide +kernel]
  rfl
theorem flds_no (k : DK) (t : Addr) {m : Str} (h1 : (m == "word") = false) (h2 : (m == "undoer") = false) (h3 : (m == "at") = false) : (flds k t).lookup m = none := by
  unfold flds
  rw [List.lookup_cons, h1]
  show List.lookup m [(("undoer" : Str), V.str k.undo), ("at", .ref t)] = _
  rw [List.lookup_cons, h2]
  show List.lookup m [(("at" : Str), V.ref t)] = _
  rw [List.lookup_cons, h3]
  rfl
theorem flds_put (w u : Str) (t : Addr) : putF "at" (.ref t) (putF "undoer" (.str u) (putF "word" (.str w) [])) = ([("word", .str w), ("undoer", .str u), ("at", .ref t)] : List (Str × V)) := by
  have h1 : ¬ (("word" : Str) = "undoer") := by decide +kernel
  have h2 : ¬ (("word" : Str) = "at") := by decide +kernel
  have h3 : ¬ (("undoer" : Str) = "at") := by decide +kernel
  simp only [putF, if_neg h1, if_neg h2, if_neg h3]
/-- the deed d stands at a -/
def DdAt (CD : DK → Addr) (H : Hp) (a : Addr) (d : Dd) : Prop := ∃ dx t, H a = some (.ins (CD d.k) dx (flds d.k t)) ∧ H t = some (.tup (vn d.w)) ∧ d.w.length = d.k.n
theorem DdAt.same {CD : DK → Addr} {H H' : Hp} {a : Addr} {d : Dd} (h : DdAt CD H a d) (s : Same H H') : DdAt CD H' a d := by
  obtain ⟨dx, t, h1, h2, h3⟩ := h
  exact ⟨dx, t, s _ _ h1, s _ _ h2, h3⟩
/-- the words of the kind k with these numbers stand at a -/
def WdAt (H : Hp) (a : Addr) (k : DK) (is : List Int) : Prop := H a = some (.tup (.str k.word :: is.map V.int)) ∧ is.length = k.n ∧ is.Nodup
/-- whether a thing is told to be a whole number -/
def WN (K : PySem.W.Frag) (H : Hp) (v : V) (b : Bool) : Prop := ∃ t b1 b2, TyOf K H v t ∧ PySem.W.kitOne K t (.type "int") = some b1 ∧ PySem.W.kitOne K t (.type "bool") = some b2 ∧ b = (b1 && !b2)
theorem WN.int (K : PySem.W.Frag) (H : Hp) (i : Int) : WN K H (.int i) true := ⟨_, true, false, .int i, kit_int_int, kit_int_bool, rfl⟩
theorem WN.bl (K : PySem.W.Frag) (H : Hp) (i : Bool) : WN K H (.bl i) false := ⟨_, true, true, .bl i, kit_bool_int, kit_bool_bool, rfl⟩
theorem WN.str (K : PySem.W.Frag) (H : Hp) (i : Str) : WN K H (.str i) false := ⟨_, false, false, .str i, kit_str_int, kit_str_bool, rfl⟩
theorem WN.non (K : PySem.W.Frag) (H : Hp) : WN K H .non false := ⟨_, false, false, .non, kit_NoneType_int, kit_NoneType_bool, rfl⟩
/-- flat things, told to be whole numbers or not -/
def wnB : V → Bool
  | .int _ => true
  | _ => false
theorem WN.flat (K : PySem.W.Frag) (H : Hp) : ∀ {v : V}, flatV v = true → WN K H v (wnB v)
  | .int i, _ => WN.int K H i
  | .bl i, _ => WN.bl K H i
  | .str i, _ => WN.str K H i
  | .non, _ => WN.non K H
/-- what are no words of a deed -/
inductive NoW (K : PySem.W.Frag) (H : Hp) : V → Prop
  | kind {v t} (h : TyOf K H v t) (k : PySem.W.kitOne K t (.type "tuple") = some false) : NoW K H v
  | empty {a} (h : H a = some (.tup [])) : NoW K H (.ref a)
  | first {a i xs} (h : H a = some (.tup (.int i :: xs))) (f : xs.all okV = true) (m : xs.length ≤ 900) : NoW K H (.ref a)
  | word {a s xs} (h : H a = some (.tup (.str s :: xs))) (e : tabAt s tabW = none) (fs : PyData.strOk s = true) (f : xs.all okV = true) (m : xs.length ≤ 900) : NoW K H (.ref a)
  | len {a k xs} (h : H a = some (.tup (.str (DK.word k) :: xs))) (l : xs.length ≠ k.n) (f : xs.all okV = true) (m : xs.length ≤ 900) : NoW K H (.ref a)
  | part {a k xs} (h : H a = some (.tup (.str (DK.word k) :: xs))) (l : xs.length = k.n) (f : xs.all okV = true) (e : xs.all wnB = false) : NoW K H (.ref a)
  | same {a k i} (h : H a = some (.tup [.str (DK.word k), .int i, .int i])) (e : k.n = 2) : NoW K H (.ref a)
/-- what is handed in as words: none, or a kind's with numbers -/
def Thg (K : PySem.W.Frag) (H : Hp) (v : V) : Prop := NoW K H v ∨ ∃ a k is, v = .ref a ∧ WdAt H a k is
def sp_is_whole_number (K : PySem.W.Frag) : Sp := fun vs H Q _ => ∃ v b, vs = [v] ∧ WN K H v b ∧ Q (.bl b) H
def sp_check_words (K : PySem.W.Frag) (C : Addr) : Sp := fun vs H Q E => ∃ v, vs = [v] ∧ ((NoW K H v ∧ ∀ H', Same H H' → E (.ref C) none H') ∨ (∃ a k is, v = .ref a ∧ WdAt H a k is ∧ ∀ H', Same H H' → Q .non H'))
def sp_Deed___init__ (K : PySem.W.Frag) (CD : DK → Addr) : Sp := fun vs H Q _ => ∃ p w u t, vs = [.ref p, .str w, .str u, .ref t] ∧ ∃ k dx, H p = some (.ins (CD k) dx []) ∧ Q .non (upd H p (.ins (CD k) dx [("word", .str w), ("undoer", .str u), ("at", .ref t)]))
def sp_init1 (K : PySem.W.Frag) (CD : DK → Addr) (k : DK) : Sp := fun vs H Q _ => ∃ (p : Addr) (j : Nat), vs = [.ref p, .int j] ∧ ∃ dx, H p = some (.ins (CD k) dx []) ∧ ∀ t, H t = none → Q .non (upd (upd H t (.tup (vn [j]))) p (.ins (CD k) dx (flds k t)))
def sp_init2 (K : PySem.W.Frag) (CD : DK → Addr) (k : DK) : Sp := fun vs H Q _ => ∃ (p : Addr) (j i : Nat), vs = [.ref p, .int j, .int i] ∧ ∃ dx, H p = some (.ins (CD k) dx []) ∧ ∀ t, H t = none → Q .non (upd (upd H t (.tup (vn [j, i]))) p (.ins (CD k) dx (flds k t)))
abbrev sp_Over___init__ (K : PySem.W.Frag) (CD : DK → Addr) : Sp := sp_init1 K CD .over
abbrev sp_Quarter___init__ (K : PySem.W.Frag) (CD : DK → Addr) : Sp := sp_init1 K CD .quarter
abbrev sp_Back___init__ (K : PySem.W.Frag) (CD : DK → Addr) : Sp := sp_init1 K CD .back
abbrev sp_Both___init__ (K : PySem.W.Frag) (CD : DK → Addr) : Sp := sp_init1 K CD .both
abbrev sp_Where___init__ (K : PySem.W.Frag) (CD : DK → Addr) : Sp := sp_init2 K CD .wher
abbrev sp_Swap___init__ (K : PySem.W.Frag) (CD : DK → Addr) : Sp := sp_init2 K CD .swap
def sp_Deed_wires (K : PySem.W.Frag) (CD : DK → Addr) : Sp := fun vs H Q _ => ∃ a d, vs = [.ref a] ∧ DdAt CD H a d ∧ ∀ p, H p = none → Q (.ref p) (upd H p (.lst (vn d.w)))
abbrev sp_D_wires (K : PySem.W.Frag) (CD : DK → Addr) (_ : DK) : Sp := sp_Deed_wires K CD
def sp_Deed_words (K : PySem.W.Frag) (CD : DK → Addr) : Sp := fun vs H Q _ => ∃ a d, vs = [.ref a] ∧ DdAt CD H a d ∧ ∀ p H', Same H H' → H' p = some (.tup (.str d.k.word :: vn d.w)) → Q (.ref p) H'
abbrev sp_D_words (K : PySem.W.Frag) (CD : DK → Addr) (_ : DK) : Sp := sp_Deed_words K CD
def sp_Deed_undoing (K : PySem.W.Frag) (CD : DK → Addr) : Sp := fun vs H Q _ => ∃ a d, vs = [.ref a] ∧ DdAt CD H a d ∧ ∀ p t H', Same H H' → H p = none → H' p = some (.lst [.ref t]) → H' t = some (.tup (.str d.k.undo :: vn d.w)) → Q (.ref p) H'
abbrev sp_D_undoing (K : PySem.W.Frag) (CD : DK → Addr) (_ : DK) : Sp := sp_Deed_undoing K CD
def sp_deed_of_words (K : PySem.W.Frag) (CD : DK → Addr) (C1 C2 : Addr) : Sp := fun vs H Q E => ∃ v, vs = [v] ∧ ((NoW K H v ∧ ∀ H', Same H H' → E (.ref C1) none H') ∨ (∃ a k is, v = .ref a ∧ WdAt H a k is ∧
  ((∀ i ∈ is, 0 ≤ i) → ∀ p d H', Same H H' → DdAt CD H' p d → d.k = k → d.w.map (fun x : Nat => (x : Int)) = is → Q (.ref p) H') ∧ ((¬ ∀ i ∈ is, 0 ≤ i) → ∀ H', Same H H' → E (.ref C2) none H')))
def sp_deed_of (K : PySem.W.Frag) (CD : DK → Addr) (C1 C2 : Addr) : Sp := fun vs H Q E => ∃ v n, vs = [v, .int ((n : Nat) : Int)] ∧ ((NoW K H v ∧ ∀ H', Same H H' → E (.ref C1) none H') ∨ (∃ a k is, v = .ref a ∧ WdAt H a k is ∧
  ((∀ i ∈ is, 0 ≤ i ∧ i < (n : Int)) → ∀ p d H', Same H H' → DdAt CD H' p d → d.k = k → d.w.map (fun x : Nat => (x : Int)) = is → Q (.ref p) H') ∧ ((¬ ∀ i ∈ is, 0 ≤ i ∧ i < (n : Int)) → ∀ H', Same H H' → E (.ref C2) none H')))
/-- a row of signs -/
structure Row where
  m : Nat
  x : Nat
  z : Nat
def Row.V (r : Row) : List V := [.int (r.m : Nat), .int (r.x : Nat), .int (r.z : Nat)]
structure Row.Ok (r : Row) (n : Nat) : Prop where
  m : r.m ≤ 1
  x : r.x < 2 ^ n
  z : r.z < 2 ^ n
/-- what a row becomes by a deed of the kind k at the wires i, j -/
def ex (n i j : Nat) : Nat := n ^^^ (n.testBit i ^^ n.testBit j).toNat * 2 ^ i ^^^ (n.testBit i ^^ n.testBit j).toNat * 2 ^ j
def actW (k : DK) (i j : Nat) (r : Row) : Row :=
  match k with
  | .over => ⟨r.m ^^^ (r.z.testBit i).toNat, r.x, r.z⟩
  | .quarter => ⟨r.m ^^^ (r.x.testBit i && r.z.testBit i).toNat, r.x, r.z ^^^ (r.x.testBit i).toNat * 2 ^ i⟩
  | .back => ⟨r.m ^^^ (r.x.testBit i && !r.z.testBit i).toNat, r.x, r.z ^^^ (r.x.testBit i).toNat * 2 ^ i⟩
  | .both => ⟨r.m ^^^ (r.x.testBit i && r.z.testBit i).toNat, r.x ^^^ (r.x.testBit i ^^ r.z.testBit i).toNat * 2 ^ i, r.z ^^^ (r.x.testBit i ^^ r.z.testBit i).toNat * 2 ^ i⟩
  | .wher => ⟨r.m ^^^ (r.x.testBit i && r.z.testBit j && !(r.z.testBit i ^^ r.x.testBit j)).toNat, r.x ^^^ (r.x.testBit i).toNat * 2 ^ j, r.z ^^^ (r.z.testBit j).toNat * 2 ^ i⟩
  | .swap => ⟨r.m, ex r.x i j, ex r.z i j⟩
def act (d : Dd) (r : Row) : Row := actW d.k (d.w.getD 0 0) (d.w.getD 1 0) r
def sp_bit_at (K : PySem.W.Frag) : Sp := fun vs H Q _ => ∃ n k : Nat, vs = [.int n, .int k] ∧ Q (.int (bI (n.testBit k))) H
def sp_exchanged (K : PySem.W.Frag) : Sp := fun vs H Q _ => ∃ n i j : Nat, vs = [.int n, .int i, .int j] ∧ i ≤ 1000 ∧ j ≤ 1000 ∧ Q (.int (ex n i j : Nat)) H
def sp_onrow (K : PySem.W.Frag) (CD : DK → Addr) (k : DK) : Sp := fun vs H Q _ => ∃ (a b : Addr) (d : Dd) (r : Row), vs = [.ref a, .ref b] ∧ d.k = k ∧ DdAt CD H a d ∧ (∀ x ∈ d.w, x ≤ 1000) ∧ SqT K H b r.V ∧ ∀ p H', Same H H' → H' p = some (.tup (act d r).V) → Q (.ref p) H'
abbrev sp_D_on_row (K : PySem.W.Frag) (CD : DK → Addr) (k : DK) : Sp := sp_onrow K CD k
abbrev sp_Over_on_row (K : PySem.W.Frag) (CD : DK → Addr) : Sp := sp_onrow K CD .over
abbrev sp_Quarter_on_row (K : PySem.W.Frag) (CD : DK → Addr) : Sp := sp_onrow K CD .quarter
abbrev sp_Back_on_row (K : PySem.W.Frag) (CD : DK → Addr) : Sp := sp_onrow K CD .back
abbrev sp_Both_on_row (K : PySem.W.Frag) (CD : DK → Addr) : Sp := sp_onrow K CD .both
abbrev sp_Where_on_row (K : PySem.W.Frag) (CD : DK → Addr) : Sp := sp_onrow K CD .wher
abbrev sp_Swap_on_row (K : PySem.W.Frag) (CD : DK → Addr) : Sp := sp_onrow K CD .swap
theorem one_wire {w : List Nat} (h : w.length = 1) : ∃ i, w = [i] := by
  match w, h with
  | [i], _ => exact ⟨i, rfl⟩
theorem two_wires {w : List Nat} (h : w.length = 2) : ∃ i j, w = [i, j] := by
  match w, h with
  | [i, j], _ => exact ⟨i, j, rfl⟩
end Tw

set_option Elab.async false
set_option linter.all false
set_option maxRecDepth 100000
namespace Tw
/-! What rows and deeds do to one number of ups and downs: to do the row and then the deed is to do the deed and then what the row becomes. -/
/-- a quarter turn, q times -/
def turn (q : Nat) (p : Int × Int) : Int × Int :=
  if q % 4 = 0 then p else if q % 4 = 1 then (-p.2, p.1) else if q % 4 = 2 then (-p.1, -p.2) else (p.2, -p.1)
/-- the quarter turns of a row at the number b -/
def qq (r : Row) (b n : Nat) : Nat := 2 * r.m + 2 * cnt (fun i => r.z.testBit i && b.testBit i) n + cnt (fun i => r.x.testBit i && r.z.testBit i) n
def rowE (r : Row) (n : Nat) (e : Nat × Int × Int) : Nat × Int × Int := (e.1 ^^^ r.x, turn (qq r e.1 n) e.2)
/-- b with bit i let go -/
def clr (b i : Nat) : Nat := b - (b.testBit i).toNat * 2 ^ i
/-- what a deed makes of one number -/
def deedW (k : DK) (i j : Nat) (e : Nat × Int × Int) : List (Nat × Int × Int) :=
  match k with
  | .over => [(e.1 ^^^ 2 ^ i, e.2)]
  | .quarter => [(e.1, turn (e.1.testBit i).toNat e.2)]
  | .back => [(e.1, turn (3 * (e.1.testBit i).toNat) e.2)]
  | .both => [(clr e.1 i, e.2), (clr e.1 i + 2 ^ i, turn (2 * (e.1.testBit i).toNat) e.2)]
  | .wher => [(e.1 ^^^ (e.1.testBit i).toNat * 2 ^ j, e.2)]
  | .swap => [(clr (clr e.1 i) j + (e.1.testBit j).toNat * 2 ^ i + (e.1.testBit i).toNat * 2 ^ j, e.2)]
end Tw

set_option Elab.async false
set_option linter.all false
set_option maxRecDepth 100000
namespace Tw
open PySem L2
/-! Rows behind deeds: they stay rows of these wires; what stays. -/
end Tw

set_option Elab.async false
set_option linter.all false
set_option maxRecDepth 100000
namespace Tw
open PySem L2
/-! All but what stands at f stays. -/
def But (f : Addr) (H H' : Hp) : Prop := ∀ c o, c ≠ f → H c = some o → H' c = some o
end Tw

set_option Elab.async false
set_option linter.all false
set_option maxRecDepth 100000
namespace L2
open PySem PySem.Spec PyProof.Rows
/-! An exception out of a list comprehension: noted in the block, let go with its names, passed on by the def. -/
section
variable {M : Model} {A : Around} {E : Value → Shared → Prop} {s : Shared} {base : Heap} {env : Env} {outer : List Env} {L e : Addr} {cls a0 fl : Value}
theorem frames_but {h h' : Heap} {C : Addr} (sb : Heap.SameBut C h h') : ∀ {l : List Env}, h.FunFrames base l → C ∉ frs l → h'.FunFrames base l
  | [], _, _ => trivial
  | env :: r, ⟨hk, ⟨L, o, hf, hn, ho, hd⟩, hr⟩, hC => ⟨hk, ⟨L, o, hf, hn, sb.extBut L o (fun z => hC (List.mem_filterMap.mpr ⟨env, .head _, by rw [hf, z]⟩)) ho, hd⟩, frames_but sb hr fun z => by
      obtain ⟨y, hy, q⟩ := List.mem_filterMap.mp z
      exact hC (List.mem_filterMap.mpr ⟨y, .tail _ hy, q⟩)⟩
theorem traced_but {h h' : Heap} {C : Addr} (sb : Heap.SameBut C h h') (hC : ∀ o vs, h.get? C = some o → o.data ≠ .fields vs) (t : h.TracedAtW base e cls a0 fl) : h'.TracedAtW base e cls a0 fl := by
  obtain ⟨oe, vs, T, oT, ts, he, hc, hd, h1, hnT, hTe, hT, hdT, h3⟩ := t
  exact ⟨oe, vs, T, oT, ts, sb.extBut _ _ (fun z => hC oe vs (z ▸ he) hd) he, hc, hd, h1, hnT, hTe, sb.extBut _ _ (fun z => hC oT ts (z ▸ hT) hdT) hT, hdT, h3⟩
/-- the mark of the frame in flight is set anew -/
theorem flight_any {f : Option Addr} {Q : Unit → Shared → Prop} (t : s.heap.TracedAtW base e cls a0 fl)
    (k : ∀ h' fl', h'.TracedAtW base e cls a0 fl' → (∀ b o, s.heap.get? b = some o → (∀ vs, o.data ≠ .fields vs) → h'.get? b = some o) → (∀ b o, base.get? b = some o → s.heap.get? b = some o → h'.get? b = some o) → Q () { s with heap := h' }) :
    wpAny M A (setFlight (.ref e) f) Q E s := by
  obtain ⟨oe, vs, T, oT, ts, he, hc, hd, h1, hnT, hTe, hT, hdT, h3⟩ := t
  have hz : 3 < ts.size := (Array.getElem?_eq_some_iff.mp h3).1
  unfold setFlight
  refine wpAny_bind (wpAny_field he hd h1 ?_)
  rw [if_pos (by simp : (Value.ref T != Value.none) = true)]
  refine wpAny_setField hT hdT hz (k _ _ ⟨oe, vs, T, _, _, (Heap.get?_update_other _ _ hTe).trans he, hc, hd, h1, hnT, hTe, Heap.get?_update_self _ hT (Obj.isFreed_of_fields (Obj.data_mapFields hdT _)), Obj.data_mapFields hdT _, by simp [hz]; rfl⟩
    (fun b o q nf => (Heap.get?_update_other _ _ fun z => ?_).trans q) fun b o q1 q => (Heap.get?_update_other _ _ fun z => ?_).trans q)
  · rw [← z, hT] at q
    cases q
    exact nf _ hdT
  · rw [← z, hnT] at q1
    cases q1
/-- the frame is noted, whatever mark was set -/
theorem note_any {Q : Unit → Shared → Prop} (hfr : A.frames = some (env :: outer)) (hl : s.heap.FunFrames base (env :: outer)) (hf : env.frame = some L) (t : s.heap.TracedAtW base e cls a0 fl) (hq : ¬ (fl == rawInt L) = true) (hkb : base.StaysIn s.heap) (hen : base.get? e = none)
    (k : ∀ h', Heap.NotedW base (env :: outer) e cls a0 (rawInt L) s.heap h' → Q () { s with heap := h' }) : wpAny M A (noteFrame (.ref e) env) Q E s := by
  obtain ⟨oe, vs, T, oT, ts, he, ⟨hc, h0⟩, hd, h1, hnT, hTe, hT, hdT, h3⟩ := t
  cases hc
  unfold noteFrame
  simp only [hf]
  refine wpAny_bind (wpAny_field he hd h1 ?_)
  rw [if_pos (by simp : (Value.ref T != Value.none) = true)]
  refine wpAny_bind (wpAny_field hT hdT h3 ?_)
  rw [if_neg hq]
  refine wpAny_bind (wpAny_setField hT hdT (Array.getElem?_eq_some_iff.mp h3).1 ?_)
  have oth : ∀ b, b ≠ T → (s.heap.update T (Obj.mapFields (·.setIfInBounds 3 Value.none))).get? b = s.heap.get? b := fun b hb => Heap.get?_update_other _ _ (Ne.symm hb)
  have nor : ∀ b o, s.heap.get? b = some o → (∀ vs, o.data ≠ .fields vs) → b ≠ T := fun b o hb nf z => by
    rw [z, hT] at hb
    cases hb
    exact nf ts hdT
  exact wpAny_entryW hfr (hl.of_keeps fun b o hb nf => ⟨o, (oth b (nor b o hb nf)).trans hb, rfl⟩) hf ((oth e (Ne.symm hTe)).trans he)
    (fun b o hb => (oth b fun z => by rw [z, hnT] at hb; cases hb).trans (hkb b o hb)) hen hd (Array.getElem?_eq_some_iff.mp h1).1 h0
    fun h' ⟨x1, x2, x3, x4⟩ => k h' ⟨x1, x2, x3, fun b o hb nf => x4 b o ((oth b (nor b o hb nf)).trans hb) nf⟩
theorem leaves_any {Q : Unit → Shared → Prop} (hfr : A.frames = some (env :: outer)) (hf : env.frame = some L) (hkb : base.StaysIn s.heap) (hen : base.get? e = none) (hl : s.heap.FunFrames base (env :: outer)) (t : s.heap.TracedAtW base e cls a0 fl)
    (k : ∀ h', Heap.FlyingW base outer e cls a0 h' → s.heap.UpToSlots h' → Q () { s with heap := h' }) : wpAny M A (leaving env (.ref e)) Q E s := by
  unfold leaving
  by_cases hq : (fl == rawInt L) = true
  · have hq' : fl = rawInt L := beq_iff_eq.mp hq
    subst hq'
    refine wpAny_bind (wpAny_noteFrame_againW hf t ?_)
    exact wpAny_landsW (L := L) (l := env :: outer) ⟨hkb, hen, hl, t⟩ fun h' g up => k h' ⟨g.1, g.2.1, g.2.2.1.2.2, g.2.2.2⟩ up
  · refine wpAny_bind (note_any hfr hl hf t hq hkb hen fun h1 ⟨k1, k2, k3, k4⟩ => ?_)
    exact wpAny_landsW (L := L) (l := env :: outer) (s := { s with heap := h1 }) ⟨k1, hen, k2, k3⟩ fun h' g up => k h' ⟨g.1, g.2.1, g.2.2.1.2.2, g.2.2.2⟩ (Heap.UpToSlots.trans k4 up)
end
/-- an exception in flight, its frame noted or not; ch: what may have changed beside -/
structure FlownA (P : Program) (w : World) (outer : List Env) (ch : List Addr) (H : Hp) (s : Shared) (E : XK) (ea : Addr) (cls : Value) (H' : Hp) (B : Heap) (s' : Shared) : Prop where
  os : s'.os = s.os
  bare : AllBare s'.gens
  un : Un (frs outer) ch H H' s.heap s'.heap
  hok : HOk P w H' s'.heap
  stay : B.StaysIn s'.heap
  new : B.get? ea = none
  frm : s'.heap.FunFrames B outer
  trc : ∃ a0 fl, s'.heap.TracedAtW B ea cls a0 fl
  old : ∀ b o, s.heap.get? b = some o → b ∉ frs outer → b ∉ ch → ∃ o', B.get? b = some o' ∧ (H b = none → o' = o)
  trk : ∀ b u o, H' b = some u → s'.heap.get? b = some o → B.get? b = some o
  want : E cls none H'
  al : Tw.AloneT ea s'.heap ∨ E cls (some 0) H'
theorem FlownA.hokTo {P : Program} {w : World} {outer : List Env} {ch : List Addr} {H H' : Hp} {s s' : Shared} {E : XK} {ea : Addr} {cls : Value} {B : Heap} (F : FlownA P w outer ch H s E ea cls H' B s') {h' : Heap} (k : B.StaysIn h') : HOk P w H' h' := fun b u e => by
  refine (F.hok b u e).stay (fun c v hc q => ?_) (fun _ q => q) fun _ _ q => q
  rcases hc with r | r
  · subst r; exact k _ _ (F.trk _ _ _ e q)
  · exact k _ _ (F.trk _ _ _ r q)
def PassesA (X : Cx) (E : XK) : Prop := ∀ (pins : List (Addr × Obj)) (σ : St) (H : Hp) (s : Shared) (ch : List Addr) (ea : Addr) (cls : Value) (H' : Hp) (B : Heap) (s' : Shared), Inv X pins σ H s → (∀ b ∈ ch, b ∈ X.ex ∨ X.s₀.heap.objs.size ≤ b) →
  FlownA X.prog X.w X.stack ch H s E ea cls H' B s' → X.xe (.ref ea) s'
theorem passA {P : Program} {w : World} {K : PySem.W.Frag} {mg : Str → Option Value} {base : Heap} {N : List Str} {qual : Str} {scope : Scope} {f : Addr} {cd : Value} {A : Around} {outer : List Env} {s : Shared} {H : Hp} {E : XK} :
    PassesA (cxOf (CXE P w) P w K mg base N qual scope f cd A outer s H E) E := by
  intro pins σ H1 s1 ch ea cls H' B s' I hch F'
  have F : FlownA P w (envOfC qual scope s.heap.objs.size f cd :: outer) ch H1 s1 E ea cls H' B s' := F'
  obtain ⟨a0, fl, tr⟩ := F.trc
  have hfr := I.ok.frames
  show wpAny _ _ (leaving _ _) _ _ _
  have on : ∀ E1 : Value → Shared → Prop, wpAny (model P w) (A.deeper (envOfC qual scope s.heap.objs.size f cd)) (leaving (envOfC qual scope s.heap.objs.size f cd) (.ref ea)) (fun _ s2 => (Tw.AloneT ea s2.heap ∨ E cls (some 0) H') ∧ ∃ h', s2 = { s' with heap := h' } ∧ Heap.FlyingW B outer ea cls a0 h' ∧ s'.heap.UpToSlots h') E1 s' := fun E1 => by
    have one : wpAny (model P w) (A.deeper (envOfC qual scope s.heap.objs.size f cd)) (leaving (envOfC qual scope s.heap.objs.size f cd) (.ref ea)) (fun _ s2 => ∃ h', s2 = { s' with heap := h' } ∧ Heap.FlyingW B outer ea cls a0 h' ∧ s'.heap.UpToSlots h') E1 s' := leaves_any (outer := outer) hfr rfl F.stay F.new F.frm tr fun h' fl' up => ⟨h', rfl, fl', up⟩
    rcases F.al with ka | ka
    · exact wpAny_mono (Tw.wpAny_both (Tw.leaving_alone (E := E1) hfr rfl F.frm ka) one) (fun _ _ z => ⟨.inl z.1, z.2⟩) fun _ _ z => z.1
    · exact wpAny_mono one (fun _ _ z => ⟨.inr ka, z⟩) fun _ _ z => z
  refine wpAny_mono (on _) (fun _ s2 ⟨ka, h', e2, fl', up⟩ => ?_) fun _ _ z => z
  subst e2
  have frs2 : ∀ b, b ∈ frs (envOfC qual scope s.heap.objs.size f cd :: outer) → b = s.heap.objs.size ∨ b ∈ frs outer := fun b hb => by
    obtain ⟨env, he, hf⟩ := List.mem_filterMap.mp hb
    rcases List.mem_cons.mp he with rfl | he
    · exact .inl (Option.some.inj hf).symm
    · exact .inr (List.mem_filterMap.mpr ⟨env, he, hf⟩)
  have notin : ∀ b o, s.heap.get? b = some o → b ∉ frs outer → b ∉ frs (envOfC qual scope s.heap.objs.size f cd :: outer) := fun b o e hb z => by
    rcases frs2 b z with r | r
    · have := Heap.lt_size e
      rw [r] at this
      exact Nat.lt_irrefl _ this
    · exact hb r
  have noch : ∀ b o, s.heap.get? b = some o → b ∉ ch := fun b o e z => by
    rcases hch b z with r | r
    · cases r
    · exact Nat.not_le.mpr (Heap.lt_size e) r
  have base0 : Un (frs outer) [] H H1 s.heap s1.heap := I.base
  have frm' : s'.heap.FunFrames B outer := F.frm.2.2
  refine ⟨ea, cls, H', B, rfl, F.os.trans I.os, F.bare, ⟨fun b o e n hb _ => ?_, fun b o e n hb _ => ?_, fun b o e n _ => ?_, fun b o e _ => ?_, fun b xs e => F.un.tups b xs (base0.tups b xs e), fun b o u e => F.un.frzs b o u (base0.frzs b o u e), fun b ps e => ?_⟩, F.hokTo fl'.1, ⟨a0, fl'⟩, fun b o e hb => ?_, fun b u o e q => ?_, F.want, ka⟩
  · obtain ⟨o', q, z⟩ := F.old b o (base0.keep b o e n hb (by simp)) (notin b o e hb) (noch b o e)
    rw [z (base0.free b o e n (by simp))] at q
    exact fl'.1 _ _ q
  · obtain ⟨sl, q⟩ := base0.slot b o e n hb (by simp)
    obtain ⟨sl2, q2⟩ := F.un.any (b := b) q (base0.free b o e n (by simp)) (noch b o e)
    obtain ⟨_, o3, q3, d3⟩ := frm'.mem hb
    rw [q2] at q3; cases q3
    obtain ⟨sl', q'⟩ := up b _ q2 d3
    exact ⟨sl', q'⟩
  · obtain ⟨o1, q1⟩ := base0.there b o e (by simp)
    exact F.un.free b o1 q1 (base0.free b o e n (by simp)) (noch b o e)
  · obtain ⟨o1, q1⟩ := base0.there b o e (by simp)
    by_cases hb : b ∈ frs outer
    · obtain ⟨_, o3, q3, d3⟩ := frm'.mem hb
      obtain ⟨sl', q'⟩ := up b _ q3 d3
      exact ⟨_, q'⟩
    · obtain ⟨o', q, _⟩ := F.old b o1 q1 (notin b o e hb) (noch b o e)
      exact ⟨o', fl'.1 _ _ q⟩
  · obtain ⟨m1, e1⟩ := base0.tbls b ps e
    obtain ⟨m2, e2⟩ := F.un.tbls b _ e1
    exact ⟨m1 ++ m2, by rw [e2, Array.append_assoc]⟩
  · obtain ⟨o1, q1⟩ := base0.there b o e (by simp)
    obtain ⟨o', q, z⟩ := F.old b o1 q1 (notin b o e hb) (noch b o e)
    refine ⟨o', q, fun n => ?_⟩
    have q1' := base0.keep b o e n hb (by simp)
    rw [q1'] at q1; cases q1
    exact z (base0.free b o e n (by simp))
  · obtain ⟨o1, q1⟩ := (F.hok b u e).there
    have q2 := F.trk b u o1 e q1
    have q3 := fl'.1 _ _ q2
    rw [q3] at q; cases q
    exact q2
/-- what leaves the block -/
def BX (X : Cx) (E : XK) (scope : Scope) (x : Str) (C : Addr) (s : Shared) (H : Hp) (ex : List Addr) (e : Value) (s' : Shared) : Prop :=
  ∃ (pins : List (Addr × Obj)) (σ : St) (H3 : Hp) (s3 : Shared), Inv (X.comp X.N scope x C s H ex) pins σ H3 s3 ∧ CXE X.prog X.w X.stack H3 s3 E e s'
def Cx.compE (X : Cx) (E : XK) (scope : Scope) (x : Str) (C : Addr) (s : Shared) (H : Hp) (ex : List Addr) : Cx := (X.comp X.N scope x C s H ex).wish (BX X E scope x C s H ex)
theorem passC {X : Cx} {E : XK} {scope : Scope} {x : Str} {C : Addr} {s : Shared} {H : Hp} {ex : List Addr} : Passes (CXE X.prog X.w) (X.compE E scope x C s H ex) E :=
  fun pins σ H1 s1 e s' I h => ⟨pins, σ, H1, s1, I.unwish, h⟩
theorem compLoop_anyE {prog : Program} {w : World} {A : Around} {R : Result → Shared → Prop} {s : Shared} {elt target iter : Expr} {ifs : List Expr} {scope : Scope} {pos : Pos} {it acc : Value} {env : Env} (XE : Value → Shared → Prop) (hX : ∀ e s', XE e s' → notedBy (model prog w) A env (fun e s' => R (.error e) s') e s') (I : Nat → Shared → Prop)
    (turn : ∀ n s, I n s → wpAny (model prog w) A (pyNext it) (fun r s₁ => match r with
      | none => R (.ok .next) s₁
      | some v => wpAny (model prog w) A (letOwnedTupleGo target it v) (fun _ s₀ => wpAny (model prog w) A (assign target env v) (fun _ s₂ =>
          wpAny (model prog w) A (forIn ifs true fun c r => if r = true then do let ok ← isTrue c env (eval c env); pure (ForInStep.yield ok) else pure (ForInStep.yield r)) (fun ok s₃ =>
            if ok = true then wpAny (model prog w) A (eval elt env) (fun x s₄ =>
              wpAny (model prog w) A (call (.builtin "list.append") [acc, x]) (fun _ s₅ => ∃ m, m < n ∧ I m s₅) XE s₄) XE s₃
            else ∃ m, m < n ∧ I m s₃) XE s₂) XE s₀) XE s₁) XE s)
    (n : Nat) (h : I n s) : codeAny (model prog w) A (.compLoop (.ListComp elt [⟨target, iter, ifs, 0⟩] scope pos) 0 it acc env) R s := by
  refine codeAny_loop rfl I (fun n s hI => ?_) n h
  show wpAny _ A ((compTurn (.ListComp elt [⟨target, iter, ifs, 0⟩] scope pos) 0 it acc env).onRaise (fun x => do noteFrame x env; theTreesLotGoes x)) _ _ s
  refine wpAny_noted ?_
  rw [compTurn_list]
  refine wpAny_bind (wpAny_standAt (wpAny_bind (wpAny_mono (turn n s hI) (fun r s₁ h₁ => ?_) hX)))
  cases r with
  | none => exact wpAny_pure h₁
  | some v =>
    refine wpAny_bind (wpAny_mono h₁ (fun _ s₀ h₀ => ?_) hX)
    refine wpAny_bind (wpAny_mono h₀ (fun _ s₂ h₂ => wpAny_bind (wpAny_mono h₂ (fun ok s₃ h₃ => ?_) hX)) hX)
    cases ok with
    | false => exact wpAny_pure ⟨rfl, h₃⟩
    | true =>
      exact wpAny_bind (wpAny_bind (wpAny_mono h₃ (fun x s₄ h₄ => wpAny_bind (wpAny_mono h₄ (fun _ s₅ h₅ => wpAny_pure (wpAny_pure ⟨rfl, h₅⟩)) hX)) hX))
section
variable {X : Cx} {scope : Scope} {x : Str} {px pos : Pos} {elt iter : Expr} {ifs : List Expr} {wi : TI} {tt : TT} {te : TE} {E : XK}
theorem comp_err {use : Option (Value → Sem Unit)} {QQ : Value → Shared → Prop} {acc : Value} {C : Addr} {s2 : Shared} {H2 : Hp} {fp : List Addr} {pins : List (Addr × Obj)} {σ : St} {cl : List (Str × Addr)} (hP : PassesA X E) (hst : X.stack = X.env :: X.outer) (hfr : X.env.frame = some X.env.locals) (I2 : Inv X pins σ H2 s2) (hC : s2.heap.objs.size ≤ C)
    (hch : ∀ b ∈ fp, b ∈ X.ex ∨ X.s₀.heap.objs.size ≤ b) {e : Value} {s' : Shared} (h : BX X E scope x C s2 H2 fp e s') :
    notedBy (model X.prog X.w) X.A (compEnvC scope cl C X.env) (fun e s' => compPost (model X.prog X.w) X.A X.xe use QQ acc C (.error e) s') e s' := by
  obtain ⟨pins3, σ3, H3, s3, I3, ea, cls, H', B, rfl, F⟩ := h
  obtain ⟨a0, fl⟩ := F.fly
  have fl0 : Heap.FlyingW B (X.env :: X.outer) ea cls a0 s'.heap := hst ▸ fl
  have hfrm : X.A.frames = some (X.env :: X.outer) := hst ▸ I2.ok.frames
  have nost : C ∉ frs X.stack := fun z => by
    rcases List.mem_cons.mp (I2.stkSub C z) with q | q
    · exact Nat.not_le.mpr I2.lt (q ▸ hC)
    · exact I2.nofs hC q
  have B3 : Un (frs X.stack) fp H2 H3 s2.heap s3.heap := I3.base
  obtain ⟨m3, hn3, _⟩ := I3.loc
  have hn3' : s3.heap.Ns C m3 := hn3
  obtain ⟨oC, es, ep, hoC, hdC, rest⟩ := hn3'
  have hHC : H3 C = none := I3.free
  have hBC : B.get? C = some oC := by
    obtain ⟨o', q, z⟩ := F.old C oC hoC nost
    rw [z hHC] at q
    exact q
  have hHC' : H' C = none := F.un.free C oC hoC hHC (by simp)
  show wpAny _ _ (noteFrame (.ref ea) X.env) _ _ s'
  have on : ∀ E1 : Value → Shared → Prop, wpAny (model X.prog X.w) X.A (noteFrame (.ref ea) X.env) (fun _ s4 => (Tw.AloneT ea s4.heap ∨ E cls (some 0) H') ∧ ∃ h', s4 = { s' with heap := h' } ∧ Heap.HeldW B (X.env :: X.outer) ea cls a0 X.env.locals h' ∧ s'.heap.UpToSlots h') E1 s' := fun E1 => by
    have one : wpAny (model X.prog X.w) X.A (noteFrame (.ref ea) X.env) (fun _ s4 => ∃ h', s4 = { s' with heap := h' } ∧ Heap.HeldW B (X.env :: X.outer) ea cls a0 X.env.locals h' ∧ s'.heap.UpToSlots h') E1 s' := wpAny_looks_onW (env := X.env) (outer := X.outer) hfrm hfr fl0 fun h' fl' up => ⟨h', rfl, fl', up⟩
    rcases F.al with ka | ka
    · exact wpAny_mono (Tw.wpAny_both (Tw.note_alone (E := E1) hfrm hfr fl0.2.2.1 ka) one) (fun _ _ z => ⟨.inl z.1, z.2⟩) fun _ _ z => z.1
    · exact wpAny_mono one (fun _ _ z => ⟨.inr ka, z⟩) fun _ _ z => z
  refine wpAny_mono (on _) (fun _ s4 ⟨ka, h1, e4, held, up1⟩ => ?_) fun _ _ z => z
  subst e4
  have hC1 : h1.get? C = some oC := held.1 _ _ hBC
  have core : ∀ h2, Heap.SameBut C h1 h2 → ∀ cenv : Env, wpAny (model X.prog X.w) X.A (PySem.passOn "comprehension.variables-let-go" (.ref ea) cenv : Sem Value) (fun _ _ => False) X.xe { s' with heap := h2 } := fun h2 sb cenv => by
    have t1 : h2.TracedAtW B ea cls a0 (rawInt X.env.locals) := traced_but sb (fun o vs q z => by rw [hC1] at q; cases q; rw [hdC] at z; cases z) held.2.2.2
    have kB : (PySem.W.hideAll B [C]).StaysIn B := fun b o q => PySem.W.of_hideAll _ q
    have t2 : h2.TracedAtW (PySem.W.hideAll B [C]) ea cls a0 (rawInt X.env.locals) := by
      obtain ⟨oe, vs, T, oT, ts, he, hc, hd, y1, hnT, r⟩ := t1
      exact ⟨oe, vs, T, oT, ts, he, hc, hd, y1, PySem.W.fresh_of_stays kB hnT, r⟩
    have hid : ∀ {b o}, B.get? b = some o → b ≠ C → (PySem.W.hideAll B [C]).get? b = some o := fun q n => PySem.W.hideAll_get _ q (by simpa using n)
    have hneC : ∀ {b o}, (PySem.W.hideAll B [C]).get? b = some o → b ≠ C := fun q z => by
      subst z
      rw [PySem.W.hideAll_none _ (List.mem_singleton.mpr rfl)] at q
      cases q
    have st2 : (PySem.W.hideAll B [C]).StaysIn h2 := fun b o q => sb.extBut b o (hneC q) (held.1 _ _ (kB _ _ q))
    have fr2 : h2.FunFrames (PySem.W.hideAll B [C]) X.stack := hst ▸ frames_but sb (PySem.W.funFrames_base kB held.2.2.1) (hst ▸ nost)
    unfold PySem.passOn
    obtain ⟨oe, vs, T, oT, ts, he, hc, hd, y1, r⟩ := id t2
    refine wpAny_bind (wpAny_field he hd y1 ?_)
    rw [if_neg (by simp : ¬ (Value.ref T == Value.none) = true)]
    have ka2 : Tw.AloneT ea h2 ∨ E cls (some 0) H' := ka.imp (fun k => k.but sb (fun o vs q z => by rw [hC1] at q; cases q; rw [hdC] at z; cases z)) id
    have on3 : ∀ E1 : Value → Shared → Prop, wpAny (model X.prog X.w) X.A (setFlight (.ref ea) cenv.frame) (fun _ s4 => (Tw.AloneT ea s4.heap ∨ E cls (some 0) H') ∧ ∃ h3 fl3, s4 = { s' with heap := h3 } ∧ h3.TracedAtW (PySem.W.hideAll B [C]) ea cls a0 fl3 ∧ (∀ b o, h2.get? b = some o → (∀ vs, o.data ≠ .fields vs) → h3.get? b = some o) ∧ (∀ b o, (PySem.W.hideAll B [C]).get? b = some o → h2.get? b = some o → h3.get? b = some o)) E1 { s' with heap := h2 } := fun E1 => by
      have one : wpAny (model X.prog X.w) X.A (setFlight (.ref ea) cenv.frame) (fun _ s4 => ∃ h3 fl3, s4 = { s' with heap := h3 } ∧ h3.TracedAtW (PySem.W.hideAll B [C]) ea cls a0 fl3 ∧ (∀ b o, h2.get? b = some o → (∀ vs, o.data ≠ .fields vs) → h3.get? b = some o) ∧ (∀ b o, (PySem.W.hideAll B [C]).get? b = some o → h2.get? b = some o → h3.get? b = some o)) E1 { s' with heap := h2 } := flight_any (s := { s' with heap := h2 }) t2 fun h3 fl3 t3 nf3 sb3 => ⟨h3, fl3, rfl, t3, nf3, sb3⟩
      rcases ka2 with k | k
      · exact wpAny_mono (Tw.wpAny_both (Tw.flight_alone (s := { s' with heap := h2 }) (E := E1) k) one) (fun _ _ z => ⟨.inl z.1, z.2⟩) fun _ _ z => z.1
      · exact wpAny_mono one (fun _ _ z => ⟨.inr k, z⟩) fun _ _ z => z
    refine wpAny_bind (wpAny_mono (on3 _) (fun _ s4 ⟨ka3, h3, fl3, e4, t3, nf3, sb3⟩ => ?_) fun _ _ z => z)
    subst e4
    refine wpAny_throw ?_
    have st3 : (PySem.W.hideAll B [C]).StaysIn h3 := fun b o q => sb3 b o q (st2 b o q)
    have fr3 : h3.FunFrames (PySem.W.hideAll B [C]) X.stack := fr2.of_keeps fun b o q nf => ⟨o, nf3 b o q nf, rfl⟩
    have lt2 : ∀ b o, s2.heap.get? b = some o → b ≠ C := fun b o q z => Nat.not_le.mpr (Heap.lt_size q) (z ▸ hC)
    have to3 : ∀ b o, s2.heap.get? b = some o → b ∉ frs X.stack → b ∉ fp → ∃ o', (PySem.W.hideAll B [C]).get? b = some o' ∧ (H2 b = none → o' = o) := fun b o e hb hx => by
      obtain ⟨o1, q1⟩ := B3.there b o e hx
      obtain ⟨o', q, z⟩ := F.old b o1 q1 hb
      refine ⟨o', hid q (lt2 b o e), fun n => ?_⟩
      have q1' := B3.keep b o e n hb hx
      rw [q1'] at q1; cases q1
      exact z (B3.free b o e n hx)
    have trk3 : ∀ b u o, H' b = some u → h3.get? b = some o → (PySem.W.hideAll B [C]).get? b = some o := fun b u o e q => by
      obtain ⟨o1, q1⟩ := F.some_of e
      have q2 := hid (F.trk b u o1 e q1) (ne_of_none e hHC')
      have q3 := st3 _ _ q2
      rw [q3] at q; cases q
      exact q2
    refine hP pins σ H2 s2 fp ea cls H' (PySem.W.hideAll B [C]) { s' with heap := h3 } I2 hch ⟨F.os.trans I3.os, F.bare, ⟨fun b o e n hb hx => ?_, fun b o e n hb hx => ?_, fun b o e n hx => ?_, fun b o e hx => ?_, fun b xs e => F.un.tups b xs (B3.tups b xs e), fun b o u e => F.un.frzs b o u (B3.frzs b o u e), fun b ps e => ?_⟩, fun b u e => ?_, st3, PySem.W.fresh_of_stays kB F.fly.choose_spec.2.1, fr3, ⟨a0, fl3, t3⟩, to3, trk3, F.want, ka3⟩
    · obtain ⟨o', q, z⟩ := to3 b o e hb hx
      rw [z n] at q
      exact st3 _ _ q
    · obtain ⟨sl, q⟩ := B3.slot b o e n hb hx
      obtain ⟨sl2, q2⟩ := F.un.any (b := b) q (B3.free b o e n hx) (by simp)
      obtain ⟨_, o3, q3, d3⟩ := (hst ▸ fl.2.2.1 : s'.heap.FunFrames B X.stack).mem hb
      rw [q2] at q3; cases q3
      obtain ⟨sl', q'⟩ := up1 b _ q2 d3
      exact ⟨sl', nf3 b _ (sb.extBut b _ (lt2 b o e) q') d3⟩
    · obtain ⟨o1, q1⟩ := B3.there b o e hx
      exact F.un.free b o1 q1 (B3.free b o e n hx) (by simp)
    · by_cases hb : b ∈ frs X.stack
      · obtain ⟨_, o3, q3, d3⟩ := fr3.mem hb
        exact ⟨_, q3⟩
      · obtain ⟨o', q, _⟩ := to3 b o e hb hx
        exact ⟨o', st3 _ _ q⟩
    · obtain ⟨m1, e1⟩ := B3.tbls b ps e
      obtain ⟨m2, e2⟩ := F.un.tbls b _ e1
      exact ⟨m1 ++ m2, by rw [e2, Array.append_assoc]⟩
    · refine (F.hok b u e).stay (fun c v hc q => ?_) (fun _ q => q) fun _ _ q => q
      rcases hc with r | r
      · subst r; exact st3 _ _ (hid (F.trk _ _ _ e q) (ne_of_none e hHC'))
      · exact st3 _ _ (hid (F.trk _ _ _ r q) (ne_of_none r hHC'))
  cases use <;> exact ⟨m3, ⟨oC, es, ep, hC1, hdC, rest⟩, fun h2 sb cenv _ => core h2 sb cenv⟩
theorem comp_coreE {sc : Scope} {use : Option (Value → Sem Unit)} {QQ : Value → Shared → Prop} {Q : VK} {pins : List (Addr × Obj)} {s : Shared} {σ : St} {H : Hp} {cpos : Pos} (hsc : X.env.scope = sc) (S : CpScope sc x scope) (hx : x ∉ X.N) (h0 : (".0" : Str) ∉ X.N) (hN : X.N.Nodup) (hc : X.calm = true) (hi : PI X (.Name x px) iter wi)
    (ht : ∀ C s H ex, PIfs (X.compE E scope x C s H ex) ifs tt) (he : ∀ C s H ex, PE (X.compE E scope x C s H ex) elt te) (hP : PassesA X E) (hst : X.stack = X.env :: X.outer) (hfr : X.env.frame = some X.env.locals) (I : Inv X pins σ H s) (h : tComp wi tt te σ H Q)
    (fin : ∀ (D C : Addr) (s4 : Shared) (H4 : Hp), C ≠ X.env.locals → (∀ y c, X.env.cells.lookup y = some c → c ≠ C) → (∀ p ∈ X.pn ++ pins, p.1 ≠ C) → X.s₀.heap.objs.size ≤ C → H4 C = none → (∃ m, s4.heap.Ns C m) →
      (∀ h', Heap.SameBut C s4.heap h' → Inv X pins σ H4 { s4 with heap := h' }) → Q (.ref D) H4 → compPost (model X.prog X.w) X.A X.xe use QQ (.ref D) C (.ok .next) s4)
    (hs : ∀ v, foldedSetIterable iter X.env v = pure v) :
    wpAny (model X.prog X.w) X.A (comprehension (.ListComp elt [⟨.Name x px, iter, ifs, 0⟩] scope pos) scope X.env cpos (newList []) false (eval iter X.env) use) QQ X.xe s := by
  subst hsc
  have hnames := S.nam
  refine wpAny_comprehension_free (use := use) rfl hs (closure_is (S.has I.ok)) S.kind hnames (thn (hi pins s σ H _ I h) fun v s1 h1 => thn h1 fun itv s2 h2 => ?_)
  obtain ⟨it, fp, tn, J, H2, e, I2, T, st2, f2, W, ⟨m0, w0⟩, turn⟩ := h2
  subst e
  refine wpAny_newObj_type (wpAny_newFunctionEnv S.cell (by intro y hy; simp at hy) (fun h₁ hns₁ hsb₁ => ?_) S.kind)
  dsimp only at hns₁ hsb₁ ⊢
  generalize hG : s2.heap.push { cls := .type "list", dict := none, data := .seq ([] : List Value).toArray } = G at hns₁ hsb₁ ⊢
  have hC : G.objs.size = s2.heap.objs.size + 1 := by rw [← hG, Heap.size_push]
  have hDC : s2.heap.objs.size ≠ G.objs.size := by omega
  have below : ∀ b, b < s2.heap.objs.size → b ≠ G.objs.size ∧ b ≠ s2.heap.objs.size := fun b hb => ⟨by omega, by omega⟩
  have old : ∀ b o, s2.heap.get? b = some o → h₁.get? b = some o := fun b o e => hsb₁.extBut b o (below b (Heap.lt_size e)).1 (Heap.get?_push_of_some _ (hG ▸ Heap.get?_push_of_some _ e))
  have hacc : h₁.get? s2.heap.objs.size = some { cls := .type "list", data := .seq ([] : List Value).toArray } := hsb₁.extBut _ _ hDC (Heap.get?_push_of_some _ (hG ▸ Heap.get?_push_size _ rfl))
  have hlt : ∀ b ∈ fp, b < s2.heap.objs.size := fun b hb => by
    obtain ⟨o, e, _⟩ := T.obj _ _ st2 b hb
    exact Heap.lt_size e
  have ctop : ∀ y c, (clGo X.env scope.names []).lookup y = some c → c < s2.heap.objs.size := fun y c e => by
    obtain ⟨v, q⟩ := I2.cell y c (S.cells I2.ok e)
    exact q.lt
  have hCle : s2.heap.objs.size ≤ G.objs.size := by omega
  have IY : ∀ t1, Inv (X.compE E scope x G.objs.size s2 H2 fp) [] (none :: σ) H2 { s2 with heap := h₁, toks := t1 } := fun t1 => (S.inv hx h0 rfl (fun _ _ e => .inl e) I2 hCle f2 hlt old hns₁).wish _
  have nost : ∀ b, s2.heap.objs.size ≤ b → b ∉ frs X.stack := fun b hb z => by
    rcases List.mem_cons.mp (I2.stkSub b z) with q | q
    · exact Nat.not_le.mpr I2.lt (q ▸ hb)
    · exact I2.nofs hb q
  have hD : s2.heap.objs.size ∉ frs X.stack := nost _ (Nat.le_refl _)
  have ptop : ∀ {pl : List (Addr × Obj)} {H' : Hp}, (∀ b ∈ fp, H' b = none) → (∀ p ∈ pl, p.1 ∉ fp) → ∀ b ∈ fp, FpOk (X.compE E scope x G.objs.size s2 H2 fp) pl H' b := fun {pl H'} hn hp b hb =>
    ⟨hn b hb, fun z => (below b (hlt b hb)).1 z, fun z => ((S.ok I2 hCle f2 hlt).wish _).exfs b hb z, .inl hb, fun y c e => (f2 b hb).2.2.2.2.1 y c (S.cells I2.ok e), fun p hp' z => hp p hp' (z ▸ hb)⟩
  have Dfp : s2.heap.objs.size ∉ fp := fun z => Nat.lt_irrefl _ (hlt _ z)
  have loop : ∀ t1, codeAny (model X.prog X.w) X.A (.compLoop (.ListComp elt [⟨.Name x px, iter, ifs, 0⟩] scope pos) 0 (.ref it) (.ref s2.heap.objs.size) (compEnvC scope (clGo X.env scope.names []) G.objs.size X.env))
      (compPost (model X.prog X.w) X.A X.xe use QQ (.ref s2.heap.objs.size) G.objs.size) { s2 with heap := h₁, toks := t1 } := by
    intro t1
    refine compLoop_anyE (BX X E scope x G.objs.size s2 H2 fp) (fun e s' hb => ?_) (fun n s' => ∃ i o H' ys its k, Inv (X.compE E scope x G.objs.size s2 H2 fp) [(s2.heap.objs.size, { cls := .type "list", data := .seq its k })] (o :: σ) H' s' ∧ tn i s'.heap ∧ (∀ b ∈ fp, H' b = none) ∧ Vals ys its.toList ∧ ys.length ≤ sizeLine ∧ W i n ys H')
      ?_ m0 ⟨0, none, H2, [], #[], 0, ?_, T.keep _ _ _ st2 fun b _ o e => old b o e, fun b hb => (f2 b hb).1, .nil, Nat.zero_le _, w0⟩
    · exact comp_err hP hst hfr I2 hCle (fun b hb => (f2 b hb).2.2.2.1) hb
    · rintro n s3 ⟨i, o, H3, ys, its, k, I3, st3, fr3, vs3, z3, w3⟩
      have pD : ∀ p ∈ [(s2.heap.objs.size, ({ cls := .type "list", data := .seq its k } : Obj))], p.1 ∉ fp := fun p hp => by
        have e : p = _ := List.mem_singleton.mp hp
        subst e; exact Dfp
      rcases turn i n ys H3 w3 with ⟨stop, qn⟩ | ⟨go, hz, N, hN', step⟩
      · refine wpAny_mono (T.done (X.compE E scope x G.objs.size s2 H2 fp) rfl rfl rfl hc i _ s3 (o :: σ) H3 (fun _ _ => False) I3 (ptop fr3 pD) st3 stop) (fun r s4 ⟨hr, I4⟩ => ?_) fun _ _ f => f.elim
        subst hr
        obtain ⟨m4, hn4, _⟩ := I4.loc
        obtain ⟨eD, nD, _⟩ := I4.pin _ (List.mem_singleton.mpr rfl)
        have nC : H3 G.objs.size = none := I4.free
        refine fin s2.heap.objs.size G.objs.size s4 (upd H3 s2.heap.objs.size (.lst ys)) (fun z => Nat.not_le.mpr I2.lt (z ▸ hCle)) (fun y c e z => ?_) (fun p hp z => ?_) (Nat.le_trans I2.sz hCle) (by rw [upd_ne (Ne.symm hDC)]; exact nC) ⟨m4, hn4⟩ (fun h' hs' => ?_) (qn _ nD)
        · obtain ⟨v, q⟩ := I2.cell y c e
          exact Nat.not_le.mpr q.lt (z ▸ hCle)
        · exact Nat.not_le.mpr (Heap.lt_size (I2.pin p hp).1) (z ▸ hCle)
        have eD' : h'.get? s2.heap.objs.size = some { cls := .type "list", data := .seq its k } := hs'.extBut _ _ hDC eD
        have stp : ∀ b o, s2.heap.get? b = some o → b ≠ G.objs.size ∧ b ≠ s2.heap.objs.size := fun b o e => below b (Heap.lt_size e)
        have un : Un (frs X.stack) fp H2 (upd H3 s2.heap.objs.size (.lst ys)) s2.heap h' := by
          have B := I4.base
          refine ⟨fun b o e n1 n2 n3 => hs'.extBut _ _ (stp b o e).1 (B.keep b o e n1 n2 n3), fun b o e n1 n2 n3 => ?_, fun b o e n1 n3 => ?_, fun b o e n3 => ?_, fun b xs e => ?_, fun b o u e => ?_, fun b ps e => ?_⟩
          · obtain ⟨sl, q⟩ := B.slot b o e n1 n2 n3
            exact ⟨sl, hs'.extBut _ _ (stp b o e).1 q⟩
          · rw [upd_ne (stp b o e).2]; exact B.free b o e n1 n3
          · obtain ⟨o', q⟩ := B.there b o e n3
            exact ⟨o', hs'.extBut _ _ (stp b o e).1 q⟩
          · have q := B.tups b xs e
            rw [upd_ne (ne_of_none q nD)]; exact q
          · have q := B.frzs b o u e
            rw [upd_ne (ne_of_none q nD)]; exact q
          · obtain ⟨more, q⟩ := B.tbls b ps e
            exact ⟨more, by rw [upd_ne (ne_of_none q nD)]; exact q⟩
        have hok : HOk X.prog X.w (upd H3 s2.heap.objs.size (.lst ys)) h' := fun b u e => by
          by_cases hb : b = s2.heap.objs.size
          · subst hb
            rw [upd_same] at e
            cases e
            exact ⟨z3, its.toList, k, vs3, by simpa using eD'⟩
          · rw [upd_ne hb] at e
            refine (I4.hok b u e).stay (fun c v hc' q => hs'.extBut _ _ (fun z => ?_) q) (fun c q => by rw [upd_ne (ne_of_none q nD)]; exact q) fun c xs q => by rw [upd_ne (ne_of_none q nD)]; exact q
            rcases hc' with r | r
            · rw [r] at z; rw [z, nC] at e; cases e
            · rw [z, nC] at r; cases r
        refine I2.call' (s' := { s4 with heap := h' }) I4.os un hok I4.bare (fun b hb => ?_)
        obtain ⟨f0, f1, f2', f3, f4, f5⟩ := f2 b hb
        exact ⟨f3, f1, f4, f5⟩
      · refine wpAny_mono (T.item (X.compE E scope x G.objs.size s2 H2 fp) rfl rfl rfl hc i _ s3 (o :: σ) H3 (fun _ _ => False) I3 (ptop fr3 pD) st3 go) (fun r s4 ⟨u, hr, h4⟩ => ?_) fun _ _ f => f.elim
        subst hr
        refine wpAny_mono h4 (fun _ s5 ⟨v5, H5, I5, r5, y5, st5, fr5⟩ => ?_) fun _ _ f => f.elim
        have I5' := I5.pinned (ptop fr5 pD) (T.obj _ _ st5)
        have hnd : (X.compE E scope x G.objs.size s2 H2 fp).N.Nodup := List.nodup_cons.mpr ⟨hx, hN⟩
        have hloc : (relabel scope X.env).names.lookup x = some .local := lookup_relabel_local S.own
        refine wpAny_mono (pg_name (X := X.compE E scope x G.objs.size s2 H2 fp) (i := 0) (pos := px) hnd rfl (.inl hloc) (.inr hloc) _ s5 (o :: σ) H5 v5 u (fun σ6 H6 => σ6 = some v5 :: σ ∧ H6 = H5) I5' r5 ⟨rfl, rfl⟩) (fun _ s6 ⟨σ6, H6, I6, e6, e6'⟩ => ?_) fun _ _ f => f
        subst e6 e6'
        have later : ∀ {σ7 : St} {H7 : Hp} {s7 : Shared}, Inv (X.compE E scope x G.objs.size s2 H2 fp) ([(s2.heap.objs.size, { cls := .type "list", data := .seq its k })] ++ pinsAt fp s5.heap) σ7 H7 s7 → tn (i + 1) s7.heap ∧ (∀ b ∈ fp, H7 b = none) := fun {σ7 H7 s7} I7 =>
          ⟨T.keep _ _ _ st5 fun b hb o e => (I7.pin (b, o) (List.mem_append_right _ (List.mem_append_right _ (mem_pinsAt hb e)))).1, fun b hb => by
            obtain ⟨o, e, d⟩ := T.obj _ _ st5 b hb
            exact (I7.pin (b, o) (List.mem_append_right _ (List.mem_append_right _ (mem_pinsAt hb e)))).2.1⟩
        refine wpAny_mono (ht _ _ _ _ _ s6 (some v5 :: σ) H6 _ I6 (step v5 H6 y5)) (fun ok s7 ⟨H7, I7, q7⟩ => ?_) fun _ _ f => f
        cases ok with
        | false =>
          obtain ⟨m', hm, w7⟩ := hN' _ _ q7
          exact ⟨m', hm, i + 1, some v5, H7, ys, its, k, I7.unpinned, (later I7).1, (later I7).2, vs3, z3, w7⟩
        | true =>
          refine wpAny_mono (he _ _ _ _ _ s7 (some v5 :: σ) H7 _ I7 q7) (fun uy s8 ⟨y8, H8, I8, r8, q8⟩ => ?_) fun _ _ f => f
          obtain ⟨m', hm, w8⟩ := hN' _ _ q8
          obtain ⟨eD, nD, _⟩ := I8.pin (s2.heap.objs.size, { cls := .type "list", data := .seq its k }) (List.mem_append_right _ (List.mem_append_left _ (List.mem_singleton.mpr rfl)))
          have hsz : its.size ≤ sizeLine := by
            have := vs3.length
            have e2 : its.toList.length = its.size := by simp
            omega
          refine wpAny_list_append_plain (hsz := hsz) ⟨k, eD⟩ fun h9 pl9 sb9 => ?_
          obtain ⟨k9, e9⟩ := pl9
          obtain ⟨st8, fr8⟩ := later I8
          have I8' : Inv (X.compE E scope x G.objs.size s2 H2 fp) [] (some v5 :: σ) H8 s8 := I8.pins_of fun p hp => nomatch hp
          have I9 : Inv (X.compE E scope x G.objs.size s2 H2 fp) [] (some v5 :: σ) H8 { s8 with heap := h9 } :=
            I8'.turned (t' := s8.toks) (fun b o hb e => sb9.extBut b o hb e) nD hDC (.inr (Nat.le_refl _)) (fun y c e z => by have := ctop y c e; rw [z] at this; exact Nat.lt_irrefl _ this) fun p hp => nomatch hp
          refine ⟨m', hm, i + 1, some v5, H8, ys ++ [y8], its.push uy, k9, I9.pins_of fun p hp => ?_, T.keep _ _ _ st8 fun b hb o e => sb9.extBut b o (fun z => Dfp (z ▸ hb)) e, fr8, ?_, ?_, w8⟩
          · have e : p = _ := List.mem_singleton.mp hp
            subst e
            exact ⟨e9, nD, hDC, hD, fun v z => by cases z⟩
          · rw [Array.toList_push]
            exact vs3.append (.cons r8 .nil)
          · rw [List.length_append, List.length_singleton]; omega
    · refine (IY t1).pins_of fun p hp => ?_
      have e : p = _ := List.mem_singleton.mp hp
      subst e
      exact ⟨hacc, I2.hok.fresh (Nat.le_refl _), hDC, hD, fun v z => by cases z⟩
  exact codeAny_compStart_list (loop _) (T.self _ 0 _ _ _ (T.keep _ _ _ st2 fun b _ o e => old b o e) (loop _))
theorem pe_compE {sc : Scope} (hsc : X.env.scope = sc) (S : CpScope sc x scope) (hx : x ∉ X.N) (h0 : (".0" : Str) ∉ X.N) (hN : X.N.Nodup) (hc : X.calm = true) (hi : PI X (.Name x px) iter wi)
    (ht : ∀ C s H ex, PIfs (X.compE E scope x C s H ex) ifs tt) (he : ∀ C s H ex, PE (X.compE E scope x C s H ex) elt te) (hP : PassesA X E) (hst : X.stack = X.env :: X.outer := by rfl) (hfr : X.env.frame = some X.env.locals := by rfl) (hs : ∀ v, foldedSetIterable iter X.env v = pure v := by intro _; rfl) :
    PE X (.ListComp elt [⟨.Name x px, iter, ifs, 0⟩] scope pos) (tComp wi tt te) := by
  intro pins s σ H Q I h
  rw [eval_ListComp]
  exact comp_coreE (use := none) hsc S hx h0 hN hc hi ht he hP hst hfr I h (fun D C s4 H4 _ _ _ _ _ hn inv q => let ⟨m, hn⟩ := hn; ⟨m, hn, fun h' hs' => ⟨.ref D, H4, inv h' hs', rfl, q⟩⟩) hs
end
end L2

set_option Elab.async false
set_option linter.all false
set_option maxRecDepth 100000
namespace L2
open PySem PySem.Spec PyProof.Rows
/-! for x in reversed(xs): the list stays as it is. -/
/-- the list at a, n long, from its end -/
def ItB (K : PySem.W.Frag) (a : Addr) (n : Nat) : It :=
  ⟨fun i H => ∃ xs x, SqL K H a xs ∧ xs.length = n ∧ i < n ∧ xs[n - 1 - i]? = some x, fun i H x H' => H' = H ∧ ∀ xs, SqL K H a xs → xs[n - 1 - i]? = some x, fun i _ => n ≤ i⟩
def iRev (K : PySem.W.Frag) (ta : TA) : TI := fun σ H R => ta σ H fun vs H1 => ∃ a xs, vs = [.ref a] ∧ SqL K H1 a xs ∧ R (ItB K a xs.length) H1
section
variable {X : Cx} {tg : Expr}
end
section
variable {K : PySem.W.Frag} {a : Addr} {xs : List V} {g : TG} {tb : TS} {D : Ends} {σ : St} {H : Hp}
end
/-- a comprehension over a list that the block leaves as it is -/
theorem comp_lst {K : PySem.W.Frag} {a : Addr} {xs : List V} {tt : TT} {te : TE} {Q : VK} {σ : St} {H : Hp} (Pv : Nat → List V → Hp → Prop) (hn : xs.length ≤ 1000) (h0 : Pv 0 [] H) (hl : ∀ i ys H, Pv i ys H → ys.length ≤ i) (hk : ∀ i ys H, Pv i ys H → SqL K H a xs)
    (hs : ∀ i x ys H, xs[i]? = some x → Pv i ys H → tt (some x :: σ) H fun b H2 => if b = true then te (some x :: σ) H2 fun y H3 => Pv (i + 1) (ys ++ [y]) H3 else Pv (i + 1) ys H2)
    (hd : ∀ ys H, Pv xs.length ys H → ∀ p, H p = none → Q (.ref p) (upd H p (.lst ys))) :
    ∃ W : Nat → Nat → List V → Hp → Prop, (∃ m, W 0 m [] H) ∧ ∀ i m ys H, W i m ys H → ((Itl K a).stop i H ∧ ∀ p, H p = none → Q (.ref p) (upd H p (.lst ys))) ∨
      ((Itl K a).go i H ∧ ys.length < sizeLine ∧ ∃ N : List V → Hp → Prop, (∀ ys' H', N ys' H' → ∃ m', m' < m ∧ W (i + 1) m' ys' H') ∧
        ∀ x H', (Itl K a).yld i H x H' → tt (some x :: σ) H' fun b H2 => if b = true then te (some x :: σ) H2 fun y H3 => N (ys ++ [y]) H3 else N ys H2) := by
  refine ⟨fun i m ys H => m = xs.length - i ∧ i ≤ xs.length ∧ Pv i ys H, ⟨xs.length, by simp, Nat.zero_le _, h0⟩, ?_⟩
  rintro i m ys H ⟨rfl, hi, p⟩
  by_cases hlt : i < xs.length
  · refine .inr ⟨⟨xs, xs[i], hk i ys H p, by simp [hlt]⟩, small1000 (by have := hl i ys H p; omega), Pv (i + 1), fun ys' H' p' => ⟨xs.length - (i + 1), by omega, rfl, hlt, p'⟩, fun x H' y => ?_⟩
    obtain ⟨e, y⟩ := y
    subst e
    exact hs i x ys _ (y xs (hk i ys _ p)) p
  · have e : i = xs.length := by omega
    subst e
    exact .inl ⟨⟨xs, hk _ ys H p, Nat.le_refl _⟩, hd ys H p⟩
theorem st_comp_lst {K : PySem.W.Frag} {a : Addr} {xs : List V} {tl : TE} {tt : TT} {te : TE} {Q : VK} {σ : St} {H : Hp} (e : ∀ P : V → Hp → Prop, P (.ref a) H → tl σ H P) (s : SqL K H a xs) (Pv : Nat → List V → Hp → Prop) (hn : xs.length ≤ 1000) (h0 : Pv 0 [] H) (hl : ∀ i ys H, Pv i ys H → ys.length ≤ i) (hk : ∀ i ys H, Pv i ys H → SqL K H a xs)
    (hs : ∀ i x ys H, xs[i]? = some x → Pv i ys H → tt (some x :: σ) H fun b H2 => if b = true then te (some x :: σ) H2 fun y H3 => Pv (i + 1) (ys ++ [y]) H3 else Pv (i + 1) ys H2)
    (hd : ∀ ys H, Pv xs.length ys H → ∀ p, H p = none → Q (.ref p) (upd H p (.lst ys))) : tComp (iList K tl) tt te σ H Q :=
  e _ ⟨a, rfl, ⟨xs, s⟩, comp_lst Pv hn h0 hl hk hs hd⟩
end L2

set_option Elab.async false
set_option linter.all false
set_option maxRecDepth 100000
namespace Tw
/-! A deed and what undoes it, on rows. -/
def Dd.inv (d : Dd) : Dd := ⟨d.k.inv, d.w⟩
def acts (ds : List Dd) (r : Row) : Row := ds.foldl (fun r d => act d r) r
def undo (ds : List Dd) : List Dd := (ds.map Dd.inv).reverse
end Tw

set_option Elab.async false
set_option linter.all false
set_option maxRecDepth 100000
namespace Tw
open PySem L2
/-! Works: lists of words, lists of deeds. -/
inductive All2 {α β : Type} (R : α → β → Prop) : List α → List β → Prop
  | nil : All2 R [] []
  | cons {a b as bs} (h : R a b) (t : All2 R as bs) : All2 R (a :: as) (b :: bs)
section
variable {α β : Type} {R R' : α → β → Prop} {as cs : List α} {bs ds : List β}
theorem All2.mono (k : ∀ a b, R a b → R' a b) : ∀ {as : List α} {bs : List β}, All2 R as bs → All2 R' as bs
  | _, _, .nil => .nil
  | _, _, .cons h t => .cons (k _ _ h) (t.mono k)
theorem All2.len : ∀ {as : List α} {bs : List β}, All2 R as bs → as.length = bs.length
  | _, _, .nil => rfl
  | _, _, .cons _ t => by rw [List.length_cons, List.length_cons, t.len]
theorem All2.get : ∀ {as : List α} {bs : List β}, All2 R as bs → ∀ {i : Nat} {a : α}, as[i]? = some a → ∃ b, bs[i]? = some b ∧ R a b
  | _, _, .nil, _, _, e => by cases e
  | _, _, .cons h t, 0, _, e => by cases e; exact ⟨_, rfl, h⟩
  | _, _, .cons _ t, i + 1, _, e => t.get (i := i) (by simpa using e)
theorem All2.app : ∀ {as : List α} {bs : List β}, All2 R as bs → All2 R cs ds → All2 R (as ++ cs) (bs ++ ds)
  | _, _, .nil, h => h
  | _, _, .cons x t, h => .cons x (t.app h)
theorem All2.snoc {a : α} {b : β} (h : All2 R as bs) (x : R a b) : All2 R (as ++ [a]) (bs ++ [b]) := h.app (.cons x .nil)
end
/-- the words of d stand at a -/
def Wt (H : Hp) (a : Addr) (d : Dd) : Prop := H a = some (.tup (.str d.k.word :: vn d.w))
abbrev refs (as : List Addr) : List V := as.map V.ref
def WkAt (H : Hp) (l : Addr) (ds : List Dd) : Prop := ∃ as, H l = some (.lst (refs as)) ∧ All2 (Wt H) as ds
def DsAt (CD : DK → Addr) (H : Hp) (l : Addr) (ds : List Dd) : Prop := ∃ as, H l = some (.lst (refs as)) ∧ All2 (DdAt CD H) as ds
/-! equal works -/
def wD (d : Dd) : PyData := .tuple ((V.str d.k.word :: vn d.w).map dV)
section
variable {K : PySem.W.Frag} {H : Hp} {Q : VK} {a b : Addr} {as bs : List Addr} {ds : List Dd}
end
theorem refs_get {as : List Addr} {i : Nat} {x : V} (h : (refs as)[i]? = some x) : ∃ a, as[i]? = some a ∧ x = .ref a := by
  unfold refs at h
  rw [List.getElem?_map] at h
  cases e : as[i]? with
  | none => rw [e] at h; cases h
  | some a => rw [e] at h; exact ⟨a, rfl, (Option.some.inj h).symm⟩
theorem refs_len (as : List Addr) : (refs as).length = as.length := List.length_map _
end Tw

set_option Elab.async false
set_option linter.all false
set_option maxRecDepth 100000
namespace L2
open PySem PySem.Spec PyProof.Rows
/-! Products of wide numbers; a comprehension over what a call hands back. -/
def CMulW (i j : Int) : Prop := i.natAbs < 2 ^ 300 ∧ j.natAbs < 2 ^ 300
theorem bits300 {k : Int} (h : k.natAbs < 2 ^ 300) : Builtin.Int.intBits k ≤ 300 := by
  unfold Builtin.Int.intBits
  split
  · exact Nat.zero_le _
  · rcases Nat.eq_zero_or_pos k.natAbs with z | z
    · rw [z]; decide
    · exact (Nat.log2_lt (Nat.ne_of_gt z)).mpr h
theorem op_mulW {X : Cx} : OpR X (binaryOp .Mult) (rI CMulW fun i j => .int (i * j)) := opI fun _ _ _ _ _ _ _ hc q => mul_int q (IntMulOk.of_bits (Nat.le_trans (bits300 hc.1) (by decide)) (Nat.le_trans (bits300 hc.2) (by decide)))
section
variable {K : PySem.W.Frag} {a : Addr} {xs : List V} {tl : TE} {tt : TT} {te : TE} {Q : VK} {σ : St} {H : Hp}
def sCompL (K : PySem.W.Frag) (tt : TT) (te : TE) (σ : St) (Q : VK) : V → Hp → Prop := fun x H => ∃ a, x = .ref a ∧ (∃ xs, SqL K H a xs) ∧ ∃ W : Nat → Nat → List V → Hp → Prop, (∃ m, W 0 m [] H) ∧ ∀ i m ys H, W i m ys H → ((Itl K a).stop i H ∧ ∀ p, H p = none → Q (.ref p) (upd H p (.lst ys))) ∨
      ((Itl K a).go i H ∧ ys.length < sizeLine ∧ ∃ N : List V → Hp → Prop, (∀ ys' H', N ys' H' → ∃ m', m' < m ∧ W (i + 1) m' ys' H') ∧
        ∀ x H', (Itl K a).yld i H x H' → tt (some x :: σ) H' fun b H2 => if b = true then te (some x :: σ) H2 fun y H3 => N (ys ++ [y]) H3 else N ys H2)
theorem st_cpE (h : tl σ H (sCompL K tt te σ Q)) : tComp (iList K tl) tt te σ H Q := h
theorem st_cpAt (s : SqL K H a xs) (Pv : Nat → List V → Hp → Prop) (hn : xs.length ≤ 1000) (h0 : Pv 0 [] H) (hl : ∀ i ys H, Pv i ys H → ys.length ≤ i) (hk : ∀ i ys H, Pv i ys H → SqL K H a xs)
    (hs : ∀ i x ys H, xs[i]? = some x → Pv i ys H → tt (some x :: σ) H fun b H2 => if b = true then te (some x :: σ) H2 fun y H3 => Pv (i + 1) (ys ++ [y]) H3 else Pv (i + 1) ys H2)
    (hd : ∀ ys H, Pv xs.length ys H → ∀ p, H p = none → Q (.ref p) (upd H p (.lst ys))) : sCompL K tt te σ Q (.ref a) H := ⟨a, rfl, ⟨xs, s⟩, comp_lst Pv hn h0 hl hk hs hd⟩
end
end L2
namespace Tw
open PySem L2
/-! Lists of rows. -/
/-- the row r stands at a -/
def Rt (K : PySem.W.Frag) (H : Hp) (a : Addr) (r : Row) : Prop := H a = some (.tup r.V)
def rD (r : Row) : PyData := .tuple (r.V.map dV)
section
variable {K : PySem.W.Frag} {H : Hp} {Q : VK} {a b : Addr} {as bs : List Addr} {rs : List Row}
end
theorem refs_snoc (as : List Addr) (a : Addr) : refs as ++ [.ref a] = refs (as ++ [a]) := by unfold refs; rw [List.map_append]; rfl
/-- the rows of one letter, on n wires -/
def singles : Nat → List Row
  | 0 => []
  | k + 1 => singles k ++ [⟨0, 0, 2 ^ k⟩, ⟨0, 2 ^ k, 0⟩]
end Tw

set_option Elab.async false
set_option linter.all false
set_option maxRecDepth 100000
namespace L2
open PySem PySem.Spec PyProof.Rows
/-! for i, x in enumerate(xs): the list stays as it is. -/
def ItEn (K : PySem.W.Frag) (a : Addr) (n : Nat) : It :=
  ⟨fun i H => ∃ xs x, SqL K H a xs ∧ xs.length = n ∧ xs[i]? = some x, fun i H x H' => ∃ T v, H T = none ∧ x = .ref T ∧ (∀ xs, SqL K H a xs → xs[i]? = some v) ∧ H' = upd H T (.tup [.int (i : Int), v]), fun i H => ∃ xs, SqL K H a xs ∧ xs.length = n ∧ n ≤ i⟩
section
variable {X : Cx} {tg : Expr}
def iEnumL (K : PySem.W.Frag) (ta : TA) : TI := fun σ H R => ta σ H fun vs H1 => ∃ a xs, vs = [.ref a] ∧ SqL K H1 a xs ∧ R (ItEn K a xs.length) H1
end
section
variable {K : PySem.W.Frag} {a : Addr} {xs : List V} {g : TG} {tb : TS} {D : Ends} {σ : St} {H : Hp}
def sForEn (K : PySem.W.Frag) (g : TG) (tb : TS) (D : Ends) (σ : St) : List V → Hp → Prop := fun vs H1 => ∃ a xs, vs = [.ref a] ∧ SqL K H1 a xs ∧ ∃ W : Nat → Nat → St → Hp → Prop, (∃ m, W 0 m σ H1) ∧ ∀ i m σ H, W i m σ H →
  ((ItEn K a xs.length).stop i H ∧ D.nx σ H) ∨ ((ItEn K a xs.length).go i H ∧ ∃ N : St → Hp → Prop, (∀ σ' H', N σ' H' → ∃ m', m' < m ∧ W (i + 1) m' σ' H') ∧ ∀ x H', (ItEn K a xs.length).yld i H x H' → g x σ H' fun σ2 H2 => tb { D with nx := N, ct := N, bk := D.nx } σ2 H2)
end
end L2

set_option Elab.async false
set_option linter.all false
set_option maxRecDepth 100000
namespace Tw
/-! Works that part: a letter, its rival, and the wires that are turned. -/
def bothD (j : Nat) : Dd := ⟨.both, [j]⟩
/-- a letter on the wire k: z, or x -/
def letter (x : Bool) (k : Nat) : Row := if x then ⟨0, 2 ^ k, 0⟩ else ⟨0, 0, 2 ^ k⟩
/-- the wires that are turned: those of the rival's z beside k, and k for an x -/
structure Turned (x : Bool) (k n : Nat) (rv : Row) (js : List Nat) : Prop where
  nd : js.Nodup
  at_k : k ∈ js ↔ x = true
  off_k : ∀ j, j ≠ k → (j ∈ js ↔ j < n ∧ rv.z.testBit j = true)
/-! rows compared, whatever they are -/
open PySem L2 in
open PySem L2 in
section
open PySem L2
variable {K : PySem.W.Frag} {H : Hp} {Q : VK} {a b : Addr} {as bs : List Addr} {rs ss : List Row} {r s : Row}
end
/-- the wires beside k where the rival has a z, below i -/
def tj (rv : Row) (k i : Nat) : List Nat := (List.range i).filter fun j => decide (j ≠ k) && rv.z.testBit j
end Tw

set_option Elab.async false
set_option linter.all false
set_option maxRecDepth 100000
namespace L2
open PySem PySem.Spec PyProof.Rows
section
variable {X : Cx}
end
section
variable {K : PySem.W.Frag} {H : Hp} {Q : VK} {l : Addr} {xs : List V} {k : Int}
end
end L2
namespace Tw
open PySem L2
section
variable {K : PySem.W.Frag} {H : Hp} {Q : VK} {a b a1 a2 b1 b2 : Addr} {as as' bs bs' : List Addr} {ds es : List Dd}
end
theorem cut_intsG (ns : List Int) (lo hi : Nat) : ∃ ms : List Int, cutV (ns.map V.int) (some (lo : Int)) (some (hi : Int)) = ms.map V.int ∧ ms.length ≤ hi - lo := by
  refine ⟨(ns.drop (min lo ns.length)).take (min hi ns.length - min lo ns.length), ?_, by rw [List.length_take, List.length_drop]; omega⟩
  unfold cutV
  rw [HT.sIx_nat, HT.sIx_nat, List.length_map, List.map_take, List.map_drop]
end Tw

set_option Elab.async false
set_option linter.all false
set_option maxRecDepth 100000
namespace L2
open PySem PySem.Spec PyProof.Rows
/-! any, insert, slices with a step, sorted of a list -/
section
variable {X : Cx}
def rAny (K : PySem.W.Frag) : List V → Hp → VK → Prop := fun xs H Q => ∃ (p : Addr) (bs : List Bool), xs = [.ref p] ∧ SqL K H p (bs.map V.bl) ∧ Q (.bl (bs.any id)) H
/-- xs.insert(i, y), i not below nought -/
def rInsert : V → List V → Hp → VK → Prop := fun x vs H Q => ∃ l xs y, ∃ i : Nat, x = .ref l ∧ vs = [.int (i : Int), y] ∧ H l = some (.lst xs) ∧ i ≤ xs.length ∧ xs.length ≤ 1000 ∧ Q .non (upd H l (.lst (xs.take i ++ y :: xs.drop i)))
def rSortL (K : PySem.W.Frag) : List V → Hp → VK → Prop := fun xs H Q => ∃ (p : Addr) (ns : List Int), xs = [.ref p] ∧ SqL K H p (ns.map V.int) ∧ ns.length < 64 ∧ ∀ l (ms : List Int), H l = none → ms.Perm ns → ms.Pairwise (· ≤ ·) → Q (.ref l) (upd H l (.lst (ms.map V.int)))
/-- xs[lo:hi:st] of a list of whole numbers: some of them, in a new list -/
def rSlStep (K : PySem.W.Frag) : V → Hp → VK → Prop := fun x H Q => ∃ a, ∃ ns : List Int, x = .ref a ∧ SqL K H a (ns.map V.int) ∧ ∀ p (ms : List Int), H p = none → ms.length ≤ ns.length → (∀ m ∈ ms, m ∈ ns) → Q (.ref p) (upd H p (.lst (ms.map V.int)))
end
section
variable {X : Cx} {e : Expr} {lo hi : Option Expr} {st : Expr} {te ts : TE} {tl th : TO} {p2 pos : Pos}
def tSl3 (K : PySem.W.Frag) (te : TE) (tl th : TO) (ts : TE) : TE := fun σ H Q => te σ H fun x H1 => tl σ H1 fun l H2 => th σ H2 fun u H3 => ts σ H3 fun y H4 => ∃ i : Int, y = .int i ∧ i ≠ 0 ∧ rSlStep K x H4 Q
end
section
variable {K : PySem.W.Frag} {a : Addr} {xs : List V} {ta : TA} {tt : TT} {te : TE} {Q : VK} {σ : St} {H : Hp}
end
/-! if in a try -/
end L2
namespace Tw
open PySem PySem.Spec L2
/-! works of any flat tuples, compared -/
def Ft (H : Hp) (a : Addr) (xs : List V) : Prop := H a = some (.tup xs) ∧ xs.all okV = true
theorem dvs_ft {K : PySem.W.Frag} {H : Hp} : ∀ {as : List Addr} {xss : List (List V)}, All2 (Ft H) as xss → DVs K H (refs as) (xss.map fun xs => PyData.tuple (xs.map dV))
  | _, _, .nil => .nil
  | _, _, .cons h t => .cons (.tup (SqT.of h.1) (dvs_flat h.2)) (dvs_ft t)
theorem lay_ft {H : Hp} : ∀ {as : List Addr} {xss : List (List V)}, All2 (Ft H) as xss → PyData.canLayAll0 (xss.map fun xs => PyData.tuple (xs.map dV)) = true
  | _, _, .nil => rfl
  | _, _, .cons (b := xs) h t => by
    have h1 : (PyData.tuple (xs.map dV)).canLay0 = true := by
      rw [PyData.canLay0]
      exact dVs_lay h.2
    simp [PyData.canLayAll0, h1, lay_ft t]
theorem depth_ft : ∀ {xss : List (List V)}, PyData.depthAll (xss.map fun xs => PyData.tuple (xs.map dV)) ≤ 1
  | [] => by simp [PyData.depthAll]
  | xs :: r => by
    have h1 : (PyData.tuple (xs.map dV)).depth ≤ 1 := by
      simp only [PyData.depth, dVs_depth]
      omega
    have h2 := depth_ft (xss := r)
    simp only [List.map_cons, PyData.depthAll]
    omega
theorem eqv_ft {H : Hp} : ∀ {as : List Addr} {xss : List (List V)}, All2 (Ft H) as xss → PyData.eqvAll (xss.map fun xs => PyData.tuple (xs.map dV)) (xss.map fun xs => PyData.tuple (xs.map dV)) = true
  | _, _, .nil => rfl
  | _, _, .cons (b := xs) h t => by
    have h1 : PyData.eqv (PyData.tuple (xs.map dV)) (PyData.tuple (xs.map dV)) = true := by
      rw [PyData.eqv, dVs_eqv]
    simp [PyData.eqvAll, h1, eqv_ft t]
section
variable {K : PySem.W.Frag} {H : Hp} {Q : VK} {a b : Addr} {as bs : List Addr} {xs ys : List (List V)}
theorem shaped_ft (h : All2 (Ft H) as xs) : SeqAt.shaped (.list (xs.map fun xs => PyData.tuple (xs.map dV))) = true := by
  have h2 := depth_ft (xss := xs)
  unfold SeqAt.shaped
  rw [PyData.canLay0, PyData.depth, lay_ft h, Bool.true_and, decide_eq_true_eq]
  omega
end
end Tw

set_option Elab.async false
set_option linter.all false
set_option maxRecDepth 100000
namespace L2
open PySem PySem.Spec PyProof.Rows
/-! sum of a list of whole numbers; the values of a dict walked -/
section
variable {X : Cx}
def rSum (K : PySem.W.Frag) : List V → Hp → VK → Prop := fun xs H Q => ∃ (p : Addr) (ns : List Int), xs = [.ref p] ∧ SqL K H p (ns.map V.int) ∧ Q (.int ns.sum) H
theorem call_sumL (hc : X.calm = true) : CallR X (.builtin "sum") (rSum X.K) := by
  intro pins s σ H xs us Q I r h
  obtain ⟨p, ns, rfl, hs, q⟩ := h
  obtain ⟨u, rfl, ru⟩ := vals1 r
  cases ru
  obtain ⟨its, ri, pl, _⟩ := I.list hs
  obtain ⟨xs, e1, e2⟩ := ints_items ri
  have hl : s.heap.IsList p (intItems xs) := by rw [← e1]; exact pl.isList
  refine sum_intListG (I.ok.hd hc) hl fun h' tk t' hk => ⟨.int ns.sum, H, I.kept (t' := tk) hk, ⟨t', ?_⟩, q⟩
  rw [preSum_eq, List.take_of_length_le (by simp), ← e2]
/-- the values of the frozen dict at a -/
def Itv (a : Addr) (o : Obj) (kvs : List (Key × V)) : It :=
  ⟨fun i H => H a = some (.frz o (.dK kvs)) ∧ i < kvs.length, fun i H x H' => H' = H ∧ ∃ k, kvs[i]? = some (k, x), fun i H => H a = some (.frz o (.dK kvs)) ∧ kvs.length ≤ i⟩
end
section
variable {X : Cx}
/-- d.values() as it is walked: d is frozen from here on -/
def iVals (tl : TE) : TI := fun σ H R => tl σ H fun x H1 => ∃ a kvs, x = .ref a ∧ ((H1 a = some (.dK kvs) ∧ ∀ o, R (Itv a o kvs) (upd H1 a (.frz o (.dK kvs)))) ∨ ∃ o, H1 a = some (.frz o (.dK kvs)) ∧ R (Itv a o kvs) H1)
/-- an expression that freezes a dict and is done with it -/
def tThawE (t : TE) : TE := fun σ H Q => ∃ a kvs, H a = some (.dK kvs) ∧ t σ H fun v H' => ∃ o, H' a = some (.frz o (.dK kvs)) ∧ Q v (upd H' a (.dK kvs))
end
section
variable {K : PySem.W.Frag} {tl : TE} {tt : TT} {te : TE} {Q : VK} {σ : St} {H : Hp} {a : Addr} {kvs : List (Key × V)}
theorem st_sum {ns : List Int} (s : SqL K H a (ns.map V.int)) (q : Q (.int ns.sum) H) : rSum K [.ref a] H Q := ⟨a, ns, rfl, s, q⟩
end
end L2

set_option Elab.async false
set_option linter.all false
set_option maxRecDepth 100000
namespace L2
open PySem PySem.Spec PyProof.Rows
/-! texts of whole numbers, joined texts, texts taken apart, numbers read, tuples of lists -/
/-- the signs of a whole number written -/
def dec (i : Int) : List Nat := (Str.ofString (toString i)).cps.toList
theorem dec_T (i : Int) : V.str (toString i) = T (dec i) := congrArg V.str (str_T _)
def inter (s : List Nat) : List (List Nat) → List Nat
  | [] => []
  | [l] => l
  | l :: m :: r => l ++ s ++ inter s (m :: r)
theorem strjoin_inter (s : List Nat) (ls : List (List Nat)) : Str.join ⟨s.toArray⟩ (ls.map fun l => (⟨l.toArray⟩ : Str)) = ⟨(inter s ls).toArray⟩ := by
  induction ls with
  | nil => rfl
  | cons l ls ih =>
    cases ls with
    | nil => rfl
    | cons m r =>
      show (⟨l.toArray⟩ : Str) ++ ⟨s.toArray⟩ ++ Str.join _ ((m :: r).map fun l => (⟨l.toArray⟩ : Str)) = _
      rw [ih, app_T, app_T]
      rfl
theorem join_inter (s : List Nat) (ls : List (List Nat)) : Txt.join ⟨s.toArray⟩ (ls.map fun l => (⟨l.toArray⟩ : Str)) = ⟨(inter s ls).toArray⟩ := by
  show Builtin.Str.glued _ _ = _
  rw [StrLaws.glued_eq_join]
  exact strjoin_inter s ls
def spl (l y : List Nat) : List (List Nat) := (Txt.split ⟨l.toArray⟩ ⟨y.toArray⟩).map fun z => z.cps.toList
theorem spl_join (l y : List Nat) : inter y (spl l y) = l := by
  have h := StrLaws.join_split ⟨l.toArray⟩ ⟨y.toArray⟩
  have e : Txt.split ⟨l.toArray⟩ ⟨y.toArray⟩ = (spl l y).map fun l => (⟨l.toArray⟩ : Str) := by
    unfold spl
    rw [List.map_map]
    conv => lhs; rw [← List.map_id (Txt.split _ _)]
    refine List.map_congr_left fun z _ => ?_
    exact (str_T z)
  rw [e, strjoin_inter] at h
  have h2 := congrArg (fun z : Str => z.cps.toList) h
  simpa using h2
theorem spl_ne (l y : List Nat) : spl l y ≠ [] := by
  intro h
  have h1 := split_pos ⟨l.toArray⟩ ⟨y.toArray⟩
  have h2 := congrArg List.length h
  unfold spl at h2
  rw [List.length_map] at h2
  simp at h2
  rw [h2] at h1
  simp at h1
theorem spl_free (l : List Nat) (c : Nat) : ∀ p ∈ spl l [c], c ∉ p := by
  intro p hp
  obtain ⟨z, hz, rfl⟩ := List.mem_map.1 hp
  exact StrLaws.split_free ⟨l.toArray⟩ c z hz
theorem app_free {c : Nat} : ∀ {a b x y : List Nat}, c ∉ a → c ∉ b → a ++ c :: x = b ++ c :: y → a = b ∧ x = y
  | [], [], x, y, _, _, h => ⟨rfl, (List.cons.inj h).2⟩
  | [], b0 :: b, x, y, _, hb, h => by
    have := (List.cons.inj h).1
    exact (hb (this ▸ List.mem_cons_self)).elim
  | a0 :: a, [], x, y, ha, _, h => by
    have := (List.cons.inj h).1
    exact (ha (this ▸ List.mem_cons_self)).elim
  | a0 :: a, b0 :: b, x, y, ha, hb, h => by
    obtain ⟨h1, h2⟩ := List.cons.inj h
    obtain ⟨e1, e2⟩ := app_free (fun z => ha (List.mem_cons_of_mem _ z)) (fun z => hb (List.mem_cons_of_mem _ z)) h2
    exact ⟨by rw [h1, e1], e2⟩
theorem inter_inj {c : Nat} : ∀ {ls ms : List (List Nat)}, ls ≠ [] → ms ≠ [] → (∀ l ∈ ls, c ∉ l) → (∀ l ∈ ms, c ∉ l) → inter [c] ls = inter [c] ms → ls = ms
  | [], _, h, _, _, _, _ => (h rfl).elim
  | _ :: _, [], _, h, _, _, _ => (h rfl).elim
  | [l], [m], _, _, _, _, h => by rw [show l = m from h]
  | [l], m :: m2 :: ms, _, _, h1, _, h => by
    have e : l = m ++ [c] ++ inter [c] (m2 :: ms) := h
    exact (h1 l List.mem_cons_self (by rw [e]; simp)).elim
  | l :: l2 :: ls, [m], _, _, _, h2, h => by
    have e : l ++ [c] ++ inter [c] (l2 :: ls) = m := h
    exact (h2 m List.mem_cons_self (by rw [← e]; simp)).elim
  | l :: l2 :: ls, m :: m2 :: ms, _, _, h1, h2, h => by
    have e : l ++ c :: inter [c] (l2 :: ls) = m ++ c :: inter [c] (m2 :: ms) := by
      have h' : l ++ [c] ++ inter [c] (l2 :: ls) = m ++ [c] ++ inter [c] (m2 :: ms) := h
      simpa using h'
    obtain ⟨e1, e2⟩ := app_free (h1 l List.mem_cons_self) (h2 m List.mem_cons_self) e
    rw [e1, inter_inj (by simp) (by simp) (fun x hx => h1 x (List.mem_cons_of_mem _ hx)) (fun x hx => h2 x (List.mem_cons_of_mem _ hx)) e2]
section
variable {X : Cx}
def rJoinG (K : PySem.W.Frag) : V → List V → Hp → VK → Prop := fun x vs H Q => ∃ p s ls, x = T s ∧ vs = [.ref p] ∧ SqL K H p (ls.map T) ∧ s.length ≤ 10 ∧ ls.length ≤ 1000 ∧ (∀ l ∈ ls, l.length ≤ 1000) ∧ Q (T (inter s ls)) H
theorem vals_TG : ∀ {ls : List (List Nat)} {us : List Value}, Vals (ls.map T) us → ∃ l : List (Str × Tok), us = strValues l ∧ l.map (·.1) = ls.map fun l => (⟨l.toArray⟩ : Str)
  | [], _, .nil => ⟨[], rfl, rfl⟩
  | c :: cs, _, .cons r rs => by
    obtain ⟨t, rfl⟩ := r
    obtain ⟨l, rfl, e⟩ := vals_TG rs
    exact ⟨(_, t) :: l, rfl, by rw [List.map_cons, e]; rfl⟩
theorem mt_joinG : MtR X "str.join" (rJoinG X.K) := by
  intro pins s σ H x xs v us Q I rx rs h
  obtain ⟨p, z, ls, rfl, rfl, hs, hz, hl, hb, q⟩ := h
  obtain ⟨t, rfl⟩ := rx
  obtain ⟨u, rfl, ru⟩ := Vals.one rs
  cases (show u = Value.ref p from ru)
  obtain ⟨its, rv, pl, _⟩ := I.list hs
  obtain ⟨l, rfl, e⟩ := vals_TG rv
  refine SC.join pl.isList e ?_ fun t' k => ?_
  · unfold JoinOk
    rw [Bool.not_eq_true', StrLaws.joinFits (B := 1000)]
    · intro y hy
      obtain ⟨c, hc, rfl⟩ := List.mem_map.mp hy
      rw [len_T]
      exact hb c hc
    · rw [List.length_map, len_T]
      have : ls.length * z.length ≤ 1000 * 10 := Nat.mul_le_mul hl hz
      omega
  · rw [join_inter]
    exact ⟨T (inter z ls), H, I.tok k, ⟨_, rfl⟩, q⟩
theorem st_joinG {K : PySem.W.Frag} {H : Hp} {Q : VK} {a : Addr} {z : List Nat} {ls : List (List Nat)} (s : SqL K H a (ls.map T)) (hz : z.length ≤ 10) (hl : ls.length ≤ 1000) (hb : ∀ l ∈ ls, l.length ≤ 1000) (q : Q (T (inter z ls)) H) : rJoinG K (T z) [.ref a] H Q := ⟨a, z, ls, rfl, rfl, s, hz, hl, hb, q⟩
/-! a text taken apart -/
theorem tw_split {prog : Program} {w : World} {A : Around} {E : Value → Shared → Prop} {s : Shared} {x y : Str} {t u : Tok} {Q : Value → Shared → Prop} (hy : (y.length == 0) = false) (hz : x.length ≤ 1000)
    (h : ∀ (l : List (Str × Tok)) k, l.map (·.1) = Txt.split x y → Q (.ref s.heap.objs.size) { s with heap := s.heap.push (seqObj "list" (strValues l).toArray 0), toks := k }) : wpAny (model prog w) A (call (.builtin "str.split") [.str x t, .str y u]) Q E s := by
  have hB : 1002 ≤ sizeLine := by rw [sizeLine_eq]; decide
  have hn : (Builtin.Str.partsBetween x (Builtin.Str.occurrences x y 0 x.length (x.length + 1)) y.length).length ≤ sizeLine := by
    have e1 := StrLaws.occ_length_le x y 0 x.length (x.length + 1)
    rw [length_partsBetween]
    omega
  cases h1 : (decide (x.length < y.length) || decide (Builtin.Str.strKind x < Builtin.Str.strKind y)) with
  | true => exact call_meets F.slot_str_split (typeIs_str _ _ _) F.entry_str_split (F.args_str_split_2 _ _) (meets_str_split_cannot_occur x y t u h1) (h [(x, t)] s.toks (if_pos h1).symm)
  | false =>
    cases h2 : (Builtin.Str.occurrences x y 0 x.length (x.length + 1)).isEmpty with
    | true => exact call_meets F.slot_str_split (typeIs_str _ _ _) F.entry_str_split (F.args_str_split_2 _ _) (meets_str_split_not_found x y t u h1 hy h2) (h [(x, t)] s.toks ((if_neg (ne_true_of_eq_false h1)).trans (if_pos h2)).symm)
    | false =>
      refine call_meets F.slot_str_split (typeIs_str _ _ _) F.entry_str_split (F.args_str_split_2 _ _) (meets_str_split_sep x y t u h1 hy h2 (by omega) hn) ?_
      show wants Q E _ { s with toks := _, heap := s.heap.push { cls := .type "list", data := .seq (strsFrom s.toks (Builtin.Str.partsBetween x (Builtin.Str.occurrences x y 0 x.length (x.length + 1)) y.length)).toArray } }
      rw [strsFrom_eq]
      exact h (numbered s.toks _) _ ((numbered_texts _ _).trans ((if_neg (ne_true_of_eq_false h1)).trans (if_neg (ne_true_of_eq_false h2))).symm)
def rSplit : V → List V → Hp → VK → Prop := fun x vs H Q => ∃ l y, x = T l ∧ vs = [T y] ∧ 0 < y.length ∧ l.length ≤ 990 ∧ ∀ p, H p = none → Q (.ref p) (upd H p (.lst ((spl l y).map T)))
theorem vals_split : ∀ {l : List (Str × Tok)} {zs : List Str}, l.map (·.1) = zs → Vals ((zs.map fun z => z.cps.toList).map T) (strValues l)
  | [], _, rfl => .nil
  | (z, t) :: l, _, rfl => .cons ⟨t, congrArg (fun x => Value.str x t) (str_T z)⟩ (vals_split rfl)
theorem mt_split : MtR X "str.split" rSplit := by
  intro pins s σ H x xs v us Q I rx rs h
  obtain ⟨l, y, rfl, rfl, hy, hl, q⟩ := h
  obtain ⟨t, rfl⟩ := rx
  obtain ⟨u, rfl, ru⟩ := Vals.one rs
  obtain ⟨t', rfl⟩ := ru
  refine tw_split (by rw [len_T]; simp; exact List.length_pos_iff.1 hy) (by rw [len_T]; omega) fun ls k e => ?_
  have hlen : ((spl l y).map T).length ≤ 1000 := by
    have h1 := split_le ⟨l.toArray⟩ ⟨y.toArray⟩
    rw [len_T] at h1
    unfold spl
    rw [List.length_map, List.length_map]
    omega
  exact ⟨.ref s.heap.objs.size, _, I.laid (t' := k) (o := .lst ((spl l y).map T)) (fun b ob q => Heap.get?_push_of_some _ q) (Nat.le_refl _) ⟨Nat.le_of_lt (small1000 hlen), strValues ls, 0, vals_split e, Heap.get?_push_size _ rfl⟩, rfl, q _ (I.hok.fresh (Nat.le_refl _))⟩
theorem st_split {H : Hp} {Q : VK} {l y : List Nat} (hy : 0 < y.length) (hl : l.length ≤ 990) (q : ∀ p, H p = none → Q (.ref p) (upd H p (.lst ((spl l y).map T)))) : rSplit (T l) [T y] H Q := ⟨l, y, rfl, rfl, hy, hl, q⟩
/-! int(text), tuple(list), str(what may be a text) -/
def rIntS : List V → Hp → VK → Prop := fun xs H Q => ∃ l n, xs = [T l] ∧ l.length ≤ 600 ∧ PySem.intText? ⟨l.toArray⟩ = some n ∧ Q (.int n) H
theorem call_intS : CallR X (.type "int") rIntS := by
  intro pins s σ H xs us Q I r h
  obtain ⟨l, n, rfl, hl, hn, q⟩ := h
  obtain ⟨u, rfl, t, rfl⟩ := vals1 r
  exact PySem.W.KIN.call_text hn (by rw [len_T]; omega) ⟨.int n, H, I.tok _, ⟨_, rfl⟩, q⟩
def rTupL (K : PySem.W.Frag) : List V → Hp → VK → Prop := fun xs H Q => ∃ p ys, xs = [.ref p] ∧ SqL K H p ys ∧ ys.length ≤ 900 ∧ ∀ q, H q = none → Q (.ref q) (upd H q (.tup ys))
theorem tw_collect_lst {prog : Program} {w : World} {A : Around} {E : Value → Shared → Prop} {s : Shared} {l : Addr} {us : List Value} {Q : List Value → Shared → Prop} (hl : s.heap.IsList l us.toArray) (hz : us.length ≤ 1000)
    (q : ∀ h' : Heap, (∀ b o, s.heap.get? b = some o → h'.get? b = some o) → s.heap.objs.size ≤ h'.objs.size → Q us { s with heap := h' }) : wpAny (model prog w) A (collect (.ref l)) Q E s := by
  have hb : us.length + 1 ≤ sizeLine := by rw [sizeLine_eq]; omega
  refine collect_list hl (q _ (fun b o eb => ?_) ?_) (by omega)
  · rw [Heap.get?_update_ne _ _ _ _ (Nat.ne_of_lt (Heap.lt_size eb))]
    exact Heap.get?_push_of_some _ eb
  · rw [Heap.size_update, Heap.size_push]
    exact Nat.le_succ _
theorem tw_tuple_new (l : Addr) (o : Obj) (us : List Value) (n : Nat) (hc : o.cls = .type "list") (hd : o.data = .seq us.toArray n) (hz : us.length ≤ 1000) :
    Meets (Builtin.«tuple.__new__» ⟨[.type "tuple", .ref l], []⟩)
      (fun _ R s => s.heap.get? l = some o ∧ ∀ h' : Heap, (∀ b o', s.heap.get? b = some o' → h'.get? b = some o') → s.heap.objs.size ≤ h'.objs.size → R (.ok (.ret (.ref h'.objs.size))) { s with heap := h'.push { cls := .type "tuple", data := .seq us.toArray } }) :=
  .of_wp fun prog w A R s h => by
    obtain ⟨hp, g, d, tk, os⟩ := s
    obtain ⟨ht, h⟩ := h
    have k1 := sub_tuple_self
    have k2 := init_tuple_lookup
    have k3 := madeHere_tuple
    have hT : Shared.TypeIs ⟨hp, g, d, tk, os⟩ (.ref l) "list" := ⟨o, ht, hc⟩
    have hL : (Shared.mk hp g d tk os).heap.IsList l us.toArray := ⟨o, ht, hc, n, hd⟩
    have hb : us.length + 1 ≤ sizeLine := by rw [sizeLine_eq]; omega
    wp_walk using AutoSeq1.wpAny_loadPart' ht, wpAny_typeOf hT, tw_collect_lst hL hz
    intro h' hk hle
    show wpAny _ _ (Builtin.Tuple.tupleExact us.toArray >>= fun v => ret v) _ _ _
    unfold Builtin.Tuple.tupleExact
    refine wpAny_bind (wpAny_newObj_type ?_ (by show us.toArray.size ≤ sizeLine; simp only [List.size_toArray]; omega))
    exact wpAny_pure ⟨_, rfl, h h' hk hle⟩
theorem call_tupL : CallR X (.type "tuple") (rTupL X.K) := by
  intro pins s σ H xs us Q I r h
  obtain ⟨p, ys, rfl, hs, hl, q⟩ := h
  obtain ⟨u, rfl, ru⟩ := vals1 r
  cases ru
  obtain ⟨its, ri, pl, _⟩ := I.list hs
  have hlen : its.length = ys.length := ri.length.symm
  have hB : 1002 ≤ sizeLine := by rw [sizeLine_eq]; decide
  obtain ⟨o, ho, hc, n, hd⟩ := pl.isList
  refine callType_new F.called_tuple (by decide) (F.typeCall_tuple_1 _) (F.newCall_tuple_1 _) (fun obj => F.args_object_init_2 obj _) F.entry_tuple_new
    (tw_tuple_new p o its n hc hd (by omega)) ⟨ho, fun h' hk hle => ⟨⟨_, Heap.get?_push_size _ rfl, rfl⟩, ?_⟩⟩
  exact ⟨.ref h'.objs.size, _, I.laid (t' := s.toks) (o := .tup ys) (fun b ob q => Heap.get?_push_of_some _ (hk b ob q)) hle (show ObjOk X.prog X.w _ _ _ (.tup ys) from ⟨Nat.le_of_lt (small1000 (by omega)), its, ri, IsTup.new _ _⟩), rfl, q _ (I.hok.fresh hle)⟩
def rStrX : List V → Hp → VK → Prop := fun xs H Q => (∃ i : Int, xs = [.int i] ∧ i.natAbs < 10 ^ 20 ∧ Q (T (dec i)) H) ∨ ∃ x, xs = [.str x] ∧ Q (.str x) H
theorem call_strX : CallR X (.type "str") rStrX := by
  intro pins s σ H xs us Q I r h
  rcases h with ⟨i, rfl, hi, q⟩ | ⟨x, rfl, q⟩
  · obtain ⟨u, rfl, t, rfl⟩ := vals1 r
    rw [← dec_T] at q
    refine PySem.P.str_of_int ?_ ⟨.str _, H, I.tok _, ⟨_, rfl⟩, q⟩
    refine Nat.lt_of_le_of_lt (m := 100) ?_ (by decide)
    rcases Nat.eq_zero_or_pos i.natAbs with z | z
    · rw [z]; decide
    · exact Nat.le_of_lt ((Nat.log2_lt (by omega)).2 (Nat.lt_trans hi (by decide)))
  · obtain ⟨u, rfl, t, rfl⟩ := vals1 r
    exact PySem.P.str_of_str ⟨.str x, H, I, ⟨_, rfl⟩, q⟩
end
end L2

set_option Elab.async false
set_option linter.all false
set_option maxRecDepth 100000
namespace Tw
open PySem L2 Builtin Builtin.Str
/-! A text taken apart at "; "; the steps of a work and their texts. -/
/-! steps -/
inductive Sx where
  | deed (d : Dd)
  | look (x z : Nat)
def Sx.V : Sx → List V
  | .deed d => .str d.k.word :: vn d.w
  | .look x z => [.str "look", .int (x : Int), .int (z : Int)]
def Sx.Ok (n : Nat) : Sx → Prop
  | .deed d => d.Ok n
  | .look x z => x < 2 ^ n ∧ z < 2 ^ n ∧ (x ≠ 0 ∨ z ≠ 0)
def wdL (k : DK) : List Nat := k.word.cps.toList
def Sx.ws (n : Nat) : Sx → List (List Nat)
  | .deed d => wdL d.k :: d.w.map fun i : Nat => dec (i : Int)
  | .look x z => [[108, 111, 111, 107], signs x z n]
def Sx.tx (n : Nat) (s : Sx) : List Nat := inter [32] (s.ws n)
def Sa (H : Hp) (a : Addr) (s : Sx) : Prop := H a = some (.tup s.V)
theorem dec_40 : ∀ k : Nat, k < 40 → ((dec (k : Int)).length = 1 ∨ ((dec (k : Int)).length = 2 ∧ (dec (k : Int))[0]? ≠ some 48)) ∧ (∀ c ∈ dec (k : Int), c ∈ [48, 49, 50, 51, 52, 53, 54, 55, 56, 57]) ∧ PySem.intText? ⟨(dec (k : Int)).toArray⟩ = some (k : Int) := by
  decide +kernel
theorem word_ok2 (k : DK) : (wdL k).length ≤ 7 ∧ 0 < (wdL k).length ∧ 32 ∉ wdL k ∧ 59 ∉ wdL k ∧ wdL k ≠ [108, 111, 111, 107] := by
  cases k <;> decide +kernel
theorem word_T (k : DK) : V.str k.word = T (wdL k) := congrArg V.str (str_T _)
theorem ws_free {n : Nat} {s : Sx} (ok : s.Ok n) (hn : n ≤ 40) : ∀ l ∈ s.ws n, 32 ∉ l ∧ 59 ∉ l ∧ l.length ≤ 40 := by
  intro l hl
  cases s with
  | deed d =>
    rcases List.mem_cons.1 hl with rfl | hl
    · have := word_ok2 d.k
      exact ⟨this.2.2.1, this.2.2.2.1, by omega⟩
    · obtain ⟨i, hi, rfl⟩ := List.mem_map.1 hl
      have hi2 : i < n := Dd.Ok.lt ok i hi
      have h := dec_40 i (by omega)
      refine ⟨fun z => ?_, fun z => ?_, by rcases h.1 with h | h <;> omega⟩
      · have := h.2.1 _ z
        revert this
        decide
      · have := h.2.1 _ z
        revert this
        decide
  | look x z =>
    rcases List.mem_cons.1 hl with rfl | hl
    · decide
    · rw [List.mem_singleton.1 hl]
      refine ⟨fun z => ?_, fun z => ?_, by rw [signs_len]; exact hn⟩
      · have := (signs_mem z).1
        revert this
        decide
      · have := (signs_mem z).1
        revert this
        decide
theorem inter_mem {c : Nat} {s : List Nat} : ∀ {ls : List (List Nat)}, c ∈ inter s ls → c ∈ s ∨ ∃ l ∈ ls, c ∈ l
  | [], h => by cases h
  | [l], h => .inr ⟨l, List.mem_cons_self, h⟩
  | l :: m :: r, h => by
    rcases List.mem_append.1 (show c ∈ l ++ s ++ inter s (m :: r) from h) with h | h
    · rcases List.mem_append.1 h with h | h
      · exact .inr ⟨l, List.mem_cons_self, h⟩
      · exact .inl h
    · rcases inter_mem h with h | ⟨p, hp, h⟩
      · exact .inl h
      · exact .inr ⟨p, List.mem_cons_of_mem _ hp, h⟩
theorem tx_len {n : Nat} {s : Sx} (ok : s.Ok n) (hn : n ≤ 40) : (s.tx n).length ≤ 45 ∧ 0 < (s.tx n).length := by
  cases s with
  | deed d =>
    have hw := word_ok2 d.k
    have hl := Dd.Ok.len ok
    have hd : ∀ i ∈ d.w, (dec (i : Int)).length ≤ 2 := fun i hi => by
      have := (dec_40 i (by have := Dd.Ok.lt ok i hi; omega)).1
      rcases this with h | h <;> omega
    obtain ⟨k, w⟩ := d
    have hp := k.n_pos
    dsimp only at hl hd hw
    rcases Nat.lt_or_ge k.n 2 with h | h
    · obtain ⟨i, rfl⟩ := one_wire (w := w) (by omega)
      have := hd i (by simp)
      show (wdL k ++ [32] ++ dec (i : Int)).length ≤ 45 ∧ 0 < (wdL k ++ [32] ++ dec (i : Int)).length
      simp only [List.length_append, List.length_singleton]
      omega
    · obtain ⟨i, j, rfl⟩ := two_wires (w := w) (by omega)
      have h1 := hd i (by simp)
      have h2 := hd j (by simp)
      show (wdL k ++ [32] ++ (dec (i : Int) ++ [32] ++ dec (j : Int))).length ≤ 45 ∧ 0 < (wdL k ++ [32] ++ (dec (i : Int) ++ [32] ++ dec (j : Int))).length
      simp only [List.length_append, List.length_singleton]
      omega
  | look x z =>
    show ([108, 111, 111, 107] ++ [32] ++ signs x z n).length ≤ 45 ∧ 0 < ([108, 111, 111, 107] ++ [32] ++ signs x z n).length
    simp only [List.length_append, List.length_singleton, signs_len, List.length_cons, List.length_nil]
    omega
theorem inter_len {s : List Nat} {B : Nat} : ∀ {ls : List (List Nat)}, (∀ l ∈ ls, l.length ≤ B) → (inter s ls).length ≤ ls.length * (B + s.length)
  | [], _ => Nat.zero_le _
  | [l], h => by
    have := h l List.mem_cons_self
    show l.length ≤ _
    simp
    omega
  | l :: m :: r, h => by
    have h1 := h l List.mem_cons_self
    have h2 := inter_len (s := s) (ls := m :: r) fun x hx => h x (List.mem_cons_of_mem _ hx)
    show (l ++ s ++ inter s (m :: r)).length ≤ _
    rw [List.length_append, List.length_append, List.length_cons, Nat.succ_mul]
    omega
end Tw

set_option Elab.async false
set_option linter.all false
set_option maxRecDepth 100000
namespace Tw
open PySem PySem.NumText L2
/-! numbers written by figures: what is read, and what was written -/
def rdOk (l : List Nat) : Prop := 0 < l.length ∧ l.length ≤ 60 ∧ AllDigits l ∧ ¬ (l[0]? = some 48 ∧ 1 < l.length)
theorem fold_ge : ∀ (l : List Nat) (a : Nat), a * 10 ^ l.length ≤ l.foldl (fun acc c => acc * 10 + (c - 48)) a
  | [], a => by simp
  | c :: l, a => by
    have h := fold_ge l (a * 10 + (c - 48))
    rw [List.length_cons, Nat.pow_succ, List.foldl_cons]
    refine Nat.le_trans ?_ h
    rw [Nat.mul_comm (10 ^ l.length) 10, ← Nat.mul_assoc]
    exact Nat.mul_le_mul_right _ (by omega)
theorem val_ge (c : Nat) (l : List Nat) : (c - 48) * 10 ^ l.length ≤ digitsVal (c :: l) := by
  unfold digitsVal
  rw [List.foldl_cons, Nat.zero_mul, Nat.zero_add]
  exact fold_ge l _
theorem one_fig : ∀ c : Nat, c < 58 → 48 ≤ c → dec ((digitsVal [c] : Nat) : Int) = [c] := by decide +kernel
theorem two_figs : ∀ c : Nat, c < 58 → ∀ d : Nat, d < 58 → 49 ≤ c → 48 ≤ d → dec ((digitsVal [c, d] : Nat) : Int) = [c, d] := by decide +kernel
theorem rd_dec {l : List Nat} (h : rdOk l) (hv : digitsVal l < 40) : dec ((digitsVal l : Nat) : Int) = l ∧ l.length ≤ 2 := by
  obtain ⟨h0, h6, hd, hz⟩ := h
  match l, h0, h6, hd, hz, hv with
  | [c], _, _, hd, _, _ => exact ⟨one_fig c (by have := (hd c (by simp)).2; omega) (hd c (by simp)).1, by simp⟩
  | [c, d], _, _, hd, hz, _ =>
    have h1 := hd c (by simp)
    have h2 := hd d (by simp)
    have h3 : c ≠ 48 := fun z => hz ⟨by simp [z], by simp⟩
    exact ⟨two_figs c (by omega) d (by omega) (by omega) h2.1, by simp⟩
  | c :: d :: e :: r, _, _, hd, hz, hv =>
    have h1 := hd c (by simp)
    have h3 : c ≠ 48 := fun z => hz ⟨by simp [z], by simp⟩
    have h4 := val_ge c (d :: e :: r)
    have h5 : 100 ≤ 10 ^ (d :: e :: r).length := by
      have : 10 ^ 2 ≤ 10 ^ (d :: e :: r).length := Nat.pow_le_pow_right (by decide) (by simp)
      omega
    have h6 : 1 * 100 ≤ (c - 48) * 10 ^ (d :: e :: r).length := Nat.mul_le_mul (by omega) h5
    omega
theorem dec_rd : ∀ k : Nat, k < 40 → (0 < (dec (k : Int)).length ∧ (dec (k : Int)).length ≤ 2 ∧ (∀ c ∈ dec (k : Int), 48 ≤ c ∧ c ≤ 57) ∧ ¬ ((dec (k : Int))[0]? = some 48 ∧ 1 < (dec (k : Int)).length)) ∧ digitsVal (dec (k : Int)) = k := by decide +kernel
theorem dec_rdOk {k : Nat} (h : k < 40) : rdOk (dec (k : Int)) ∧ digitsVal (dec (k : Int)) = k := by
  obtain ⟨⟨h1, h2, h3, h4⟩, h5⟩ := dec_rd k h
  exact ⟨⟨h1, by omega, h3, h4⟩, h5⟩
theorem rd_int {l : List Nat} (h : rdOk l) : PySem.intText? ⟨l.toArray⟩ = some ((digitsVal l : Nat) : Int) := by
  obtain ⟨h0, h6, hd, _⟩ := h
  have e := intText_digits (x := ⟨l.toArray⟩) (by simpa using hd) (by simpa using List.length_pos_iff.1 h0) (by rw [len_T]; omega)
  simpa using e
end Tw

set_option Elab.async false
set_option linter.all false
set_option maxRecDepth 100000
namespace Tw
open PySem PySem.Spec PyProof.Rows L2
/-! raising while another exception is handled -/
theorem entry_unchain : entryFor table "proto.unchain" = some Builtin.«proto.unchain» := entryFor_of_fast (by kernel_rfl)
section
variable {prog : Program} {w : World} {A : Around} {E : Value → Shared → Prop} {s : Shared} {e ea : Addr}
/-- raiseNew, the handled one raised behind no other -/
theorem raiseNew_late {α : Type} {Q : α → Shared → Prop} {oe : Obj} {vs : Array Value} (hh : A.handled = some (.ref ea)) (hne : ea ≠ e) (ha : Alone ea s.heap) (he : s.heap.get? e = some oe) (hd : oe.data = .fields vs) (hz : 2 < vs.size)
    (h : E (.ref e) { s with heap := s.heap.update e (Obj.mapFields (·.setIfInBounds 2 (.ref ea))) }) : wpAny (model prog w) A (raiseNew (.ref e) : Sem α) Q E s := by
  obtain ⟨ob, us, hb, hu, h2⟩ := ha
  unfold raiseNew
  refine wpAny_bind (wpAny_handled ?_)
  rw [hh]
  dsimp only
  rw [if_pos (show (Value.ref ea != Value.ref e) = true from by simp [hne])]
  refine wpAny_bind (wpAny_holding (wpAny_runValue (codeAny_builtin entry_unchain ?_)))
  unfold Builtin.«proto.unchain»
  dsimp only
  refine wpAny_bind (wpAny_field hb hu h2 ?_)
  rw [if_pos (show (Value.none == Value.none) = true from by simp)]
  refine wpAny_bind (wpAny_pure (wpAny_pure ?_))
  show wpAny _ _ (updateField e 2 (Value.ref ea) >>= fun _ => throw (Value.ref e)) _ _ _
  exact wpAny_bind (wpAny_setField (a := e) he hd hz (wpAny_throw h))
end
section
variable {prog : Program} {w : World} {A : Around} {E : Value → Shared → Prop} {s : Shared} {ea : Addr} {env : Env}
variable {nm q : Str} {C N : Addr} {bs bm : List Value} {hdct : Bool} {sn : List Str} {sub : List Value} {ab : Bool} {col : Option Bool} {dd : Option Addr} {k0 k1 k2 k3 k5 : Option Value} {newId : String}
/-- the exception at e, newly made and told of the one that is handled -/
def Late (h h' : Heap) (e : Addr) (cls : Value) : Prop := (∀ b o, b ≠ e → h.get? b = some o → h'.get? b = some o) ∧ ∃ oe vs a0, h'.get? e = some oe ∧ oe.cls = cls ∧ oe.data = .fields vs ∧ vs[0]? = some a0 ∧ vs[1]? = some .none
theorem raiseStmt_late {x c : Sem Value} {Q : Flow → Shared → Prop} (hbase : bm.contains (.type "BaseException") = true) (hh : A.handled = some (.ref ea)) (hc : ∀ s, wpAny (model prog w) A c (fun u s2 => u = .none ∧ s2 = s) E s)
    (h : wpAny (model prog w) A x (fun v s₁ => ∃ e t, v = .ref e ∧ ea ≠ e ∧ Alone ea s₁.heap ∧ s₁.heap.get? C = some (excClassObj nm q C N bs bm hdct sn sub ab col dd k0 k1 k2 k3 k5 newId) ∧
      s₁.heap.get? e = some { cls := .ref C, data := .fields #[.ref t, .none, .none, .none, .bool false, .none] } ∧ ∀ h', Late s₁.heap h' e (.ref C) → E (.ref e) { s₁ with heap := h' }) E s) :
    wpAny (model prog w) A (raiseStmt env (some x) (some c)) Q E s := by
  have hcB : (Value.ref C :: bm).contains (.type "BaseException") = true := by rw [List.contains_cons, hbase, Bool.or_true]
  unfold raiseStmt
  refine wpAny_bind (wpAny_mono h (fun v s₁ h₁ => ?_) fun _ _ x => x)
  obtain ⟨e, t, rfl, hne, hal, hC, he, hE⟩ := h₁
  refine wpAny_bind (wpAny_holding (wpAny_mono (hc s₁) (fun u s2 ⟨e1, e2⟩ => ?_) fun _ _ z => z))
  subst e1 e2
  refine wpAny_bind (wpAny_pure ?_)
  obtain ⟨hp, g, d, tk, os⟩ := s2
  have hCe : C ≠ e := fun z => by rw [z, he] at hC; cases hC
  repeat (first | with_reducible refine wpAny_loadPart_at he ?_ | with_reducible refine wpAny_loadPart_at hC ?_ | (with_reducible refine wpAny_isSubtype_exc hC ?_; rw [hcB]) | wp_step)
  have d1 : ({ cls := .ref C, data := .fields #[.ref t, .none, .none, .none, .bool false, .none] } : Obj).data = .fields #[.ref t, .none, .none, .none, .bool false, .none] := rfl
  have d2 := Obj.data_mapFields d1 (·.setIfInBounds 3 Value.none)
  have e2 := Heap.get?_update_self (Obj.mapFields (·.setIfInBounds 3 Value.none)) he (Obj.isFreed_of_fields d2)
  have d3 := Obj.data_mapFields d2 (·.setIfInBounds 4 (Value.bool true))
  have e3 := Heap.get?_update_self (Obj.mapFields (·.setIfInBounds 4 (Value.bool true))) e2 (Obj.isFreed_of_fields d3)
  have d4 := Obj.data_mapFields d3 (·.setIfInBounds 2 (Value.ref ea))
  have e4 := Heap.get?_update_self (Obj.mapFields (·.setIfInBounds 2 (Value.ref ea))) e3 (Obj.isFreed_of_fields d4)
  refine raiseNew_late hh hne ((hal.other (Ne.symm hne)).other (Ne.symm hne)) e3 d3 (by simp) (hE _ ⟨fun b o hb q => ?_, _, _, .ref t, e4, ?_, d4, rfl, rfl⟩)
  · have n := Ne.symm hb
    exact (Heap.get?_update_other _ _ n).trans ((Heap.get?_update_other _ _ n).trans ((Heap.get?_update_other _ _ n).trans q))
  · rw [Obj.cls_mapFields, Obj.cls_mapFields, Obj.cls_mapFields]
end
end Tw

set_option Elab.async false
set_option linter.all false
set_option maxRecDepth 100000
namespace Tw
open PySem PySem.Spec PyProof.Rows L2
section
variable {M : Model} {A : Around} {E : Value → Shared → Prop} {s : Shared} {base : Heap} {env : Env} {outer : List Env} {L e : Addr} {cls a0 : Value}
/-- a new exception is noted in the frame where its suite stands -/
theorem first_held {Q : Unit → Shared → Prop} {oe : Obj} {vs : Array Value} (hfr : A.frames = some (env :: outer)) (hf : env.frame = some L) (hl : s.heap.FunFrames base (env :: outer)) (hkb : base.StaysIn s.heap) (hen : base.get? e = none)
    (he : s.heap.get? e = some oe) (hc : oe.cls = cls) (hd : oe.data = .fields vs) (h0 : vs[0]? = some a0) (h1 : vs[1]? = some .none)
    (k : ∀ h', Heap.HeldW base (env :: outer) e cls a0 L h' → s.heap.UpToSlots h' → Q () { s with heap := h' }) : wpAny M A (noteFrame (.ref e) env) Q E s := by
  subst hc
  unfold noteFrame
  simp only [hf]
  refine wpAny_bind (wpAny_field he hd h1 ?_)
  rw [if_neg (by decide)]
  exact wpAny_entryW hfr hl hf he hkb hen hd (Array.getElem?_eq_some_iff.mp h1).1 h0 fun h' ⟨x1, x2, x3, x4⟩ => k h' ⟨x1, hen, x2, x3⟩ x4
/-- and comes back to the frame -/
theorem back_held (hf : env.frame = some L) (hh : Heap.HeldW base (env :: outer) e cls a0 L s.heap)
    (k : ∀ h', Heap.HeldW base (env :: outer) e cls a0 L h' → s.heap.UpToSlots h' → E (.ref e) { s with heap := h' }) : cameBackBy M A env E (.ref e) s := by
  obtain ⟨b1, b2, b3, oe, vs, T, oT, ts, he, hc, hd, h1, hnT, hTe, hT, hdT, h3⟩ := hh
  have hz : 3 < ts.size := (Array.getElem?_eq_some_iff.mp h3).1
  unfold cameBackBy
  refine wpAny_bind (wpAny_field he hd h1 ?_)
  rw [if_neg (by simp : ¬ (Value.ref T == Value.none) = true)]
  unfold setFlight
  refine wpAny_bind (wpAny_field he hd h1 ?_)
  rw [if_pos (by simp : (Value.ref T != Value.none) = true)]
  have oth : ∀ b o, s.heap.get? b = some o → (∀ vs, o.data ≠ .fields vs) → T ≠ b := fun b o q nf z => by
    rw [← z, hT] at q
    cases q
    exact nf _ hdT
  rw [hf]
  refine wpAny_setField hT hdT hz (k _ ⟨fun b o q => (Heap.get?_update_other _ _ fun z => ?_).trans (b1 b o q), b2, b3.of_keeps fun b o q nf => ⟨o, (Heap.get?_update_other _ _ (oth b o q nf)).trans q, rfl⟩, oe, vs, T, _, _, (Heap.get?_update_other _ _ hTe).trans he, hc, hd, h1, hnT, hTe, Heap.get?_update_self _ hT (Obj.isFreed_of_fields (Obj.data_mapFields hdT _)), Obj.data_mapFields hdT _, by simp [hz]⟩
    fun b o q nf => ⟨o.slots, (Heap.get?_update_other _ _ (oth b o q nf)).trans q⟩)
  rw [← z, hnT] at q
  cases q
end
theorem flown_of {P : Program} {w : World} {K : PySem.W.Frag} {mg : Str → Option Value} {base : Heap} {N : List Str} {qual : Str} {scope : Scope} {f C : Addr} {cd a0 : Value} {A : Around} {outer : List Env} {s : Shared} {H : Hp} {E : XK} {pins : List (Addr × Obj)} {σ : L2.St} {H1 : Hp} {s1 : Shared} {h' : Heap} {e : Addr}
    (I : Inv (cxOf (CXE P w) P w K mg base N qual scope f cd A outer s H E) pins σ H1 s1) (fl : Heap.FlyingW (PySem.W.hideAll s1.heap (frs (envOfC qual scope s.heap.objs.size f cd :: outer))) outer e (.ref C) a0 h') (up : s1.heap.UpToSlots h') (hE : E (.ref C) none H1) (ka : Tw.AloneT e h' ∨ E (.ref C) (some 0) H1) :
    CXE P w outer H s E (.ref e) { s1 with heap := h' } := by
  have st := I.stack
  have hid : ∀ {b o}, s1.heap.get? b = some o → b ∉ frs (envOfC qual scope s.heap.objs.size f cd :: outer) → (PySem.W.hideAll s1.heap (frs (envOfC qual scope s.heap.objs.size f cd :: outer))).get? b = some o := fun q nm => PySem.W.hideAll_get _ q nm
  have base0 : Un (frs outer) [] H H1 s.heap s1.heap := I.base
  have notin : ∀ b o, s.heap.get? b = some o → b ∉ frs outer → b ∉ frs (envOfC qual scope s.heap.objs.size f cd :: outer) := fun b o e hb z => by
    obtain ⟨env, he, hf⟩ := List.mem_filterMap.mp z
    rcases List.mem_cons.mp he with rfl | he
    · have h1 := Heap.lt_size e
      have z2 : s.heap.objs.size = b := Option.some.inj hf
      rw [← z2] at h1
      exact Nat.lt_irrefl _ h1
    · exact hb (List.mem_filterMap.mpr ⟨env, he, hf⟩)
  have trkd : ∀ b u, H1 b = some u → b ∉ frs (envOfC qual scope s.heap.objs.size f cd :: outer) := fun b u e z => by
    rw [I.stkFree b z] at e; cases e
  obtain ⟨_, _, frm, _⟩ := id fl
  refine ⟨e, .ref C, H1, _, rfl, I.os, I.bare, ⟨fun b o e n hb _ => ?_, fun b o e n hb _ => ?_, fun b o e n _ => base0.free b o e n (by simp), fun b o e _ => ?_, base0.tups, base0.frzs, base0.tbls⟩, fun b u e => ?_, ⟨_, fl⟩, fun b o e hb => ?_, fun b u o e q => ?_, hE, ka⟩
  · exact fl.1 _ _ (hid (base0.keep b o e n hb (by simp)) (notin b o e hb))
  · obtain ⟨sl, q⟩ := base0.slot b o e n hb (by simp)
    obtain ⟨_, o3, q3, d3⟩ := st.2.2.mem hb
    rw [q] at q3; cases q3
    obtain ⟨sl', q'⟩ := up b _ q d3
    exact ⟨sl', q'⟩
  · obtain ⟨o1, q1⟩ := base0.there b o e (by simp)
    by_cases hb : b ∈ frs outer
    · obtain ⟨_, o3, q3, d3⟩ := frm.mem hb
      exact ⟨_, q3⟩
    · exact ⟨o1, fl.1 _ _ (hid q1 (notin b o e hb))⟩
  · refine (I.hok b u e).stay (fun c v hc q => ?_) (fun _ q => q) fun _ _ q => q
    rcases hc with r | r
    · subst r; exact fl.1 _ _ (hid q (trkd _ _ e))
    · exact fl.1 _ _ (hid q (trkd _ _ r))
  · obtain ⟨o1, q1⟩ := base0.there b o e (by simp)
    refine ⟨o1, hid q1 (notin b o e hb), fun n => ?_⟩
    have q2 := base0.keep b o e n hb (by simp)
    rw [q1] at q2; cases q2; rfl
  · obtain ⟨o1, q1⟩ := (I.hok b u e).there
    have q2 := hid q1 (trkd _ _ e)
    have q3 := fl.1 _ _ q2
    rw [q3] at q; cases q
    exact q2
/-- an exception of a suite, noted in its frame, leaves the def -/
theorem raisesHd {P : Program} {w : World} {K : PySem.W.Frag} {mg : Str → Option Value} {base : Heap} {N : List Str} {qual : Str} {scope : Scope} {f C : Addr} {cd a0 : Value} {A : Around} {outer : List Env} {s : Shared} {H : Hp} {E : XK} {pins : List (Addr × Obj)} {σ : L2.St} {H1 : Hp} {s1 : Shared} {h1 : Heap} {e : Addr}
    (I : Inv (cxOf (CXE P w) P w K mg base N qual scope f cd A outer s H E) pins σ H1 s1) (hd : Heap.HeldW (PySem.W.hideAll s1.heap (frs (envOfC qual scope s.heap.objs.size f cd :: outer))) (envOfC qual scope s.heap.objs.size f cd :: outer) e (.ref C) a0 s.heap.objs.size h1) (up : s1.heap.UpToSlots h1) (hE : E (.ref C) none H1) (h2 : E (.ref C) (some 0) H1) :
    (cxOf (CXE P w) P w K mg base N qual scope f cd A outer s H E).xe (.ref e) { s1 with heap := h1 } := by
  show wpAny _ _ (leaving _ _) _ _ _
  unfold leaving
  refine wpAny_bind (wpAny_noteFrame_againW rfl hd.2.2.2 ?_)
  exact wpAny_landsW (s := { s1 with heap := h1 }) hd fun h' g u => flown_of (s1 := s1) (h' := h') I ⟨g.1, g.2.1, g.2.2.1.2.2, g.2.2.2⟩ (up.trans u) hE (.inr h2)
/-! try: st; except (A, B): raise C('..') from None -/
theorem AloneT.keeps {e : Addr} {h h' : Heap} (k : AloneT e h) (kp : ∀ b o, h.get? b = some o → h'.get? b = some o) : AloneT e h' := by
  obtain ⟨⟨o1, v1, e1, d1, x1⟩, oe, vs, T, oT, ts, he, hd, h1, hTe, hT, hdT, h3⟩ := k
  exact ⟨⟨o1, v1, kp _ _ e1, d1, x1⟩, oe, vs, T, oT, ts, kp _ _ he, hd, h1, hTe, kp _ _ hT, hdT, h3⟩
section
variable {prog : Program} {w : World} {A : Around} {E : Value → Shared → Prop} {s : Shared} {env : Env}
variable {nm q : Str} {C N ea : Addr} {bs bm bmB : List Value} {hdct : Bool} {sn : List Str} {sub : List Value} {ab : Bool} {col : Option Bool} {dd : Option Addr} {k0 k1 k2 k3 k5 : Option Value} {B newId initId : String}
theorem Raise_late (F : ExcBaseFacts B newId initId bmB) {mN : Str → Option Value} {x : Str} {np cpos pos npos : Pos} {nk : Nat} {args : List Expr} {Q : Flow → Shared → Prop}
    (hbase : bm.contains (.type "BaseException") = true) (hh : A.handled = some (.ref ea)) (hplain : (backTo cpos (starEach args env)).any (·.1) = false) (hni : mN "__init__" = none)
    (h : wpAny (model prog w) A (eval (.Name x np) env) (fun f s₁ => f = .ref C ∧ wpAny (model prog w) A (evalArgs (.ref C) true (backTo cpos (starEach args env)) [])
      (fun a s₂ => a.kw = [] ∧ a.pos.length ≤ sizeLine ∧ Alone ea s₂.heap ∧ s₂.heap.get? C = some (excClassObj nm q C N bs bm hdct sn sub ab col dd k0 k1 k2 k3 k5 newId) ∧ s₂.heap.Ns N mN ∧ OwnTail s₂.heap bmB bm ∧
        ∀ h1 h' e, Heap.MadeExcOf s₂.heap h1 e (.ref C) a.pos → Late h1 h' e (.ref C) → E (.ref e) { s₂ with heap := h' }) E s₁) E s) :
    wpAny (model prog w) A (exec (.Raise (some (.Call (.Name x np) args [] cpos)) (some (.Constant .none nk npos)) pos) env) Q E s := by
  rw [arm_exec_Raise]
  refine wpAny_bind (wpAny_standAt (raiseStmt_late (C := C) (nm := nm) (q := q) (N := N) (bs := bs) (bm := bm) (hdct := hdct) (sn := sn) (sub := sub) (ab := ab) (col := col) (dd := dd) (k0 := k0) (k1 := k1) (k2 := k2) (k3 := k3) (k5 := k5) (newId := newId) hbase hh
    (fun s => wpAny_bind (wpAny_Constant_none (wpAny_bind (wpAny_standAt (wpAny_pure ⟨rfl, rfl⟩)))))
    (wpAny_bind (wpAny_mono (wpAny_Call_ofName (wpAny_mono h (fun f s₁ h₁ => ?_) fun _ _ x => x)) (fun v s₃ h₃ => wpAny_bind (wpAny_standAt (wpAny_pure h₃))) fun _ _ x => x))))
  obtain ⟨rfl, h₁⟩ := h₁
  unfold callWith
  refine wpAny_bind (wpAny_holding (wpAny_mono h₁ (fun a s₂ h₂ => wpAny_bind (wpAny_standAt ?_)) fun _ _ x => x))
  obtain ⟨apos, akw⟩ := a
  obtain ⟨hkw, hlen, hal, hC, hn, T, h₂⟩ := h₂
  obtain rfl : akw = [] := hkw
  obtain ⟨hp, g, d, tk, os⟩ := s₂
  simp only [hplain]
  refine wpAny_bind (wpAny_keeperOf_exc hC ?_)
  refine wpAny_bind (wpAny_call_exc_subT (hrest := hlen) F T hC hn hni fun h' e hm => wpAny_bind (wpAny_holding (wpAny_point (wpAny_pure ?_))))
  obtain ⟨t, ht, _, _⟩ := hm.there
  obtain ⟨oa, va, qa, da, xa⟩ := hal
  exact ⟨e, t, rfl, fun z => (by have := hm.new; rw [← z] at this; rw [this] at qa; cases qa), ⟨oa, va, hm.keeps _ _ qa, da, xa⟩, hm.keeps _ _ hC, ht, fun h2 l => h₂ h' h2 e hm l⟩
end
/-- what a body's context lets through of an exception raised in a suite and noted in its frame -/
def RaisesHd (X : Cx) (C : Addr) (E : XK) : Prop := ∀ (pins : List (Addr × Obj)) (σ : L2.St) (H : Hp) (s1 : Shared) (h1 : Heap) (e : Addr) (a0 : Value), Inv X pins σ H s1 → Heap.HeldW (PySem.W.hideAll s1.heap (frs X.stack)) X.stack e (.ref C) a0 X.env.locals h1 → s1.heap.UpToSlots h1 → E (.ref C) none H → E (.ref C) (some 0) H → X.xe (.ref e) { s1 with heap := h1 }
theorem raisesHD {P : Program} {w : World} {K : PySem.W.Frag} {mg : Str → Option Value} {base : Heap} {N : List Str} {qual : Str} {scope : Scope} {f C : Addr} {cd : Value} {A : Around} {outer : List Env} {s : Shared} {H : Hp} {E : XK} :
    RaisesHd (cxOf (CXE P w) P w K mg base N qual scope f cd A outer s H E) C E := fun pins σ H1 s1 h1 e a0 I hd up hE h2 => raisesHd I hd up hE h2
def tTryR (K : PySem.W.Frag) (W1 W2 C : Addr) (E : XK) (t : XK → TS) : TS := fun D σ H => t (fun cls o H2 => o = none ∧ ∃ C', cls = .ref C' ∧ PySem.W.exmAny K (.ref C') [.ref W1, .ref W2] = some true ∧ E (.ref C) none H2 ∧ E (.ref C) (some 0) H2) D σ H
section
variable {X : Cx} {st : Stmt} {W1 W2 C : Addr} {y1 y2 x : Str} {p1 p2 hpos pos np cpos spos npos rpos tpos : Pos} {k nk tk : Nat} {tx : Str} {t : XK → TS} {E : XK}
theorem ps_tryR (hW1 : X.mg y1 = some (.ref W1)) (hW2 : X.mg y2 = some (.ref W2)) (c : ExcC X.K X.mg x C) (hr : RaisesHd X C E) (hst : X.stack = X.env :: X.outer) (hfr : X.env.frame = some X.env.locals) (hb : PSx X st t)
    (hg1 : Gl X y1 := by rfl) (hg2 : Gl X y2 := by rfl) (hg : Gl X x := by rfl) (hd1 : (y1 == ("__debug__" : Str)) = false := by decide) (hd2 : (y2 == ("__debug__" : Str)) = false := by decide) (hd : (x == ("__debug__" : Str)) = false := by decide) :
    PS X (.Try [st] [.ExceptHandler (some (.Tuple [.Name y1 p1, .Name y2 p2] tk tpos)) none [.Raise (some (.Call (.Name x np) [.Constant (.str tx) k spos] [] cpos)) (some (.Constant .none nk npos)) rpos] hpos] [] [] pos) (tTryR X.K W1 W2 C E t) := by
  intro pins s σ H D I h
  have hh := I.ok.hd
  refine wpAny_Try_except (wpAny_execs_cons (wpAny_mono (hb pins s σ H D _ I h) (fun f s1 q => ?_) fun e s1 q => ?_))
  · cases f with
    | next => exact wpAny_execs_nil (wpAny_execs_nil q)
    | ret v => exact q
    | brk => exact q
    | cont => exact q
  · obtain ⟨H1, s2, I2, ea, cls, H', B, rfl, F⟩ := q
    have al : AloneT ea s1.heap := F.al.elim id fun z => nomatch z.1
    obtain ⟨_, C', rfl, hm, hE1, hE2⟩ := F.want
    obtain ⟨a0, fl⟩ := F.fly
    have fl0 : Heap.FlyingW B (X.env :: X.outer) ea (.ref C') a0 s1.heap := hst ▸ fl
    have hfrm : X.A.frames = some (X.env :: X.outer) := hst ▸ I.ok.frames
    refine wpAny_mono (wpAny_both (note_alone (E := fun _ _ => False) hfrm hfr fl0.2.2.1 al) (wpAny_looks_onW (E := fun _ _ => False) (Q := fun _ s2 => ∃ h4, s2 = { s1 with heap := h4 } ∧ Heap.HeldW B (X.env :: X.outer) ea (.ref C') a0 X.env.locals h4 ∧ s1.heap.UpToSlots h4) hfrm hfr fl0 fun h4 a b => ⟨h4, rfl, a, b⟩)) (fun _ s4 z => ?_) fun _ _ z => z.1.elim
    obtain ⟨al4, h4, rfl, held4, up4⟩ := z
    refine wpAny_mono (wpAny_both (flight_alone (E := fun _ _ => False) al4) (wpAny_landsW (E := fun _ _ => False) (Q := fun _ s5 => ∃ h5, s5 = { s1 with heap := h5 } ∧ Heap.FlyingW B (X.env :: X.outer) ea (.ref C') a0 h5 ∧ h4.UpToSlots h5) (s := { s1 with heap := h4 }) held4 fun h5 a b => ⟨h5, rfl, a, b⟩)) (fun _ s5 z => ?_) fun _ _ z => z.1.elim
    obtain ⟨al5, h5, rfl, fl5, up5'⟩ := z
    have up5 := up4.trans up5'
    have I5 : Inv X pins σ H' { s1 with heap := h5 } := F.inv (t' := s1.toks) I2 fl5.1 up5
    refine wpAny_handleBy_cons (codeAny_handlers_test (wpAny_Tuple (wpAny_items_cons (ld_glob (X := X.suite ea) (I5.suite ea) hg1 hW1 (wpAny_items_cons (ld_glob (X := X.suite ea) (I5.suite ea) hg2 hW2 (wpAny_items_nil ⟨by size_fits, ?_⟩) hd2)) hd1)))) (by intro z; cases z)
    have kp : ∀ q o, h5.get? q = some o → (h5.push { cls := .type "tuple", data := .seq [Value.ref W1, Value.ref W2].toArray }).get? q = some o := fun _ _ z => Heap.get?_push_of_some _ z
    have hp : (h5.push { cls := .type "tuple", data := .seq [Value.ref W1, Value.ref W2].toArray }).get? h5.objs.size = some { cls := .type "tuple", data := .seq [Value.ref W1, Value.ref W2].toArray } := Heap.get?_push_size h5 rfl
    show wpAny _ _ (excMatches (.ref ea) (.ref h5.objs.size)) _ _ { s1 with heap := h5.push { cls := .type "tuple", data := .seq [Value.ref W1, Value.ref W2].toArray } }
    generalize h5.push { cls := .type "tuple", data := .seq [Value.ref W1, Value.ref W2].toArray } = h6 at kp hp ⊢
    have fl6 := PySem.W.flying_keeps fl5 kp
    have al6 : AloneT ea h6 := AloneT.keeps al5 kp
    have up6 : s1.heap.UpToSlots h6 := up5.trans (Heap.UpToSlots.of_keeps kp)
    have I6 : Inv X pins σ H' { s1 with heap := h6 } := F.inv (t' := s1.toks) I2 fl6.1 up6
    obtain ⟨ob, hob, hobc⟩ := fl6.there
    have ty : ∀ M : Model, PySem.W.Looks M h6 (typeOf (.ref ea)) (.ref C') := fun M => hobc ▸ (PySem.W.Looks.ld hob).andThen .now
    refine PySem.W.Looks.here (PySem.W.exm_tup2 (K := X.K) I6.kIn (ty _) hp hm) ?_
    refine codeAny_handlers_suite (wpAny_mono (wpAny_both (flight_alone (s := { s1 with heap := h6 }) (E := fun _ _ => False) al6) (lands_againW (E := fun _ _ => False) (Q := fun _ s5 => ∃ h7, s5 = { s1 with heap := h7 } ∧ Heap.FlyingW B (X.env :: X.outer) ea (.ref C') a0 h7 ∧ h6.UpToSlots h7) (s := { s1 with heap := h6 }) fl6 fun h7 a b => ⟨h7, rfl, a, b⟩)) (fun _ s7 z => ?_) fun _ _ z => z.1.elim)
    obtain ⟨al7, h7, rfl, fl7, up7'⟩ := z
    have up7 := up6.trans up7'
    have I7 : Inv X pins σ H' { s1 with heap := h7 } := F.inv (t' := s1.toks) I2 fl7.1 up7
    obtain ⟨bm, N, nm, q, bs, hdct, sn, sub, ab, col, dd, k0, k1, k2, k3, k5, mN, hC, hN, hni, T⟩ := c.k.obj I.ok.mod.kin
    refine wpAny_execs_cons (Raise_late (ea := ea) (C := C) (nm := nm) (q := q) (N := N) (bs := bs) (bm := bm) (hdct := hdct) (sn := sn) (sub := sub) (ab := ab) (col := col) (dd := dd) (k0 := k0) (k1 := k1) (k2 := k2) (k3 := k3) (k5 := k5)
      PySem.F.excBase_ValueError (mN := mN) (T.hasType PySem.F.excBase_ValueError.hasBase) rfl rfl hni (ld_glob (X := X.suite ea) (I7.suite ea) hg c.at_ ⟨rfl, ?_⟩ hd))
    refine Calls.evalArgs_plain (wpAny_items_cons (wpAny_Constant_str (wpAny_items_nil ?_)))
    refine ⟨rfl, by size_fits, al7.1, I7.bk _ _ hC, hN.keeps I7.bk, T.keeps I7.bk, fun h1 h' e hmk lt => ?_⟩
    have kp7 : ∀ b o, h7.get? b = some o → h'.get? b = some o := fun b o q => lt.1 b o (fun z => by have n := hmk.new; rw [← z] at n; have q' : h7.get? b = some o := q; rw [show h7.get? b = none from n] at q'; cases q') (hmk.keeps _ _ q)
    have I8 : Inv X pins σ H' { s1 with heap := h7, toks := s1.toks + 1 } := F.inv (t' := s1.toks + 1) I2 fl7.1 up7
    have st := I8.stack
    rw [hst] at st
    have hin : ∀ env ∈ (X.env :: X.outer), ∀ b, env.frame = some b → b ∈ frs (X.env :: X.outer) := fun env he b hb => List.mem_filterMap.mpr ⟨env, he, hb⟩
    have fr1 : h'.FunFrames (PySem.W.hideAll h7 (frs (X.env :: X.outer))) (X.env :: X.outer) := (PySem.W.funFrames_hide st hin).of_keeps fun b o hb _ => ⟨o, kp7 b o hb, rfl⟩
    have hnw : (PySem.W.hideAll h7 (frs (X.env :: X.outer))).get? e = none := by
      cases q : (PySem.W.hideAll h7 (frs (X.env :: X.outer))).get? e with
      | none => rfl
      | some o' =>
        have q1 := PySem.W.of_hideAll _ q
        rw [show h7.get? e = none from hmk.new] at q1
        cases q1
    obtain ⟨oe, vs, a1, he, hcl, hdd, h0, h1'⟩ := lt.2
    refine first_held (s := { s1 with heap := h', toks := s1.toks + 1 }) (base := PySem.W.hideAll h7 (frs (X.env :: X.outer))) (outer := X.outer) hfrm hfr fr1 (fun b o q => kp7 b o (PySem.W.of_hideAll _ q)) hnw he hcl hdd h0 h1' fun h2 hd2 up2 => ?_
    refine back_held (s := { s1 with heap := h2, toks := s1.toks + 1 }) hfr hd2 fun h3 hd3 up3 => ?_
    exact hr pins σ H' { s1 with heap := h7, toks := s1.toks + 1 } h3 e a1 I8 (hst ▸ hd3) (((Heap.UpToSlots.of_keeps kp7).trans up2).trans up3) hE1 hE2
theorem st_tryR {K : PySem.W.Frag} {D : Ends} {σ : L2.St} {H : Hp} (h : t (fun cls o H2 => o = none ∧ ∃ C', cls = .ref C' ∧ PySem.W.exmAny K (.ref C') [.ref W1, .ref W2] = some true ∧ E (.ref C) none H2 ∧ E (.ref C) (some 0) H2) D σ H) : tTryR K W1 W2 C E t D σ H := h
end
end Tw

set_option Elab.async false
set_option linter.all false
set_option maxRecDepth 100000
namespace L2
open PySem PySem.Spec PyProof.Rows
/-! texts that are no work: signs walked, spoilt texts, None in a list -/
section
variable {K : PySem.W.Frag} {H : Hp} {Q : VK} {l : List Nat} {c : Nat} {σ : St}
theorem st_for_str {tl : TE} {g : TG} {tb : TS} {D : Ends} (e : ∀ P : V → Hp → Prop, P (T l) H → tl σ H P) (Pv : Nat → St → Hp → Prop) (h0 : Pv 0 σ H)
    (hs : ∀ i c σ H, l[i]? = some c → Pv i σ H → g (T [c]) σ H fun σ2 H2 => tb { D with nx := Pv (i + 1), ct := Pv (i + 1), bk := D.nx } σ2 H2) (hd : ∀ σ H, Pv l.length σ H → D.nx σ H) : tFor (iStr tl) g tb D σ H := by
  refine e _ ⟨_, rfl, fun i m σ H => m = l.length - i ∧ i ≤ l.length ∧ Pv i σ H, ⟨l.length, by simp, Nat.zero_le _, h0⟩, ?_⟩
  rintro i m σ H ⟨rfl, hi, p⟩
  by_cases hlt : i < l.length
  · refine .inr ⟨by show i < l.toArray.size; simpa using hlt, Pv (i + 1), fun σ' H' p' => ⟨l.length - (i + 1), by omega, rfl, hlt, p'⟩, fun x H' y => ?_⟩
    obtain ⟨rfl, c, hc, rfl⟩ := y
    exact hs i c σ _ (by simpa using hc) p
  · have e : i = l.length := by omega
    subst e
    exact .inl ⟨by show l.toArray.size ≤ l.length; simp, hd σ H p⟩
theorem upper_asc : ∀ l : List Nat, (∀ c ∈ l, c < 128) → ∀ c ∈ (Txt.upper ⟨l.toArray⟩).cps.toList, c < 128 := by
  intro l
  induction l with
  | nil => intro _ c hc; cases hc
  | cons c l ih =>
    intro h d hd
    have e : (⟨(c :: l).toArray⟩ : Str) = ⟨[c].toArray⟩ ++ ⟨l.toArray⟩ := by rw [app_T]; rfl
    rw [e, PySem.W.KOpn.upper_app, show (⟨[c].toArray⟩ : Str) = ⟨#[c]⟩ from rfl, PySem.W.KOpn.upper_one (h c (List.mem_cons_self ..))] at hd
    have hd' : d ∈ [if 97 ≤ c ∧ c ≤ 122 then c - 32 else c] ++ (Txt.upper ⟨l.toArray⟩).cps.toList := by
      have : d ∈ (#[if 97 ≤ c ∧ c ≤ 122 then c - 32 else c] ++ (Txt.upper ⟨l.toArray⟩).cps).toList := hd
      simpa using this
    have hc := h c (List.mem_cons_self ..)
    rcases List.mem_append.1 hd' with z | z
    · rw [List.mem_singleton.1 z]
      split <;> omega
    · exact ih (fun d hd => h d (List.mem_cons_of_mem _ hd)) d z
theorem st_upperA (h : ∀ c ∈ l, c < 128) (hl : l.length ≤ 1000) (q : ∀ z : List Nat, z.length = l.length → (∀ c ∈ z, c < 128) → Q (T z) H) : rUpper (T l) [] H Q := ⟨_, rfl, rfl, by rw [upper_len l h]; exact hl, by
  have e := str_T (Txt.upper ⟨l.toArray⟩)
  rw [e]
  refine q _ ?_ (upper_asc l h)
  have := upper_len l h
  show (Txt.upper ⟨l.toArray⟩).cps.size = l.length
  unfold Str.length at this
  omega⟩
theorem fold_rep (c : Nat) : ∀ (n : Nat) (a : Array Nat), ((List.replicate n #[c]).foldl (· ++ ·) a).toList = a.toList ++ List.replicate n c
  | 0, a => by simp
  | n + 1, a => by
    rw [List.replicate_succ, List.foldl_cons, fold_rep c n, List.replicate_succ]
    simp
theorem mul_one_T (c n : Nat) : Txt.mul ⟨[c].toArray⟩ (n : Int) = ⟨(List.replicate n c).toArray⟩ := by
  unfold Txt.mul
  by_cases h0 : (n : Int) < 1
  · rw [if_pos h0]
    obtain rfl : n = 0 := by omega
    rfl
  · rw [if_neg h0]
    by_cases h1 : n = 1
    · subst h1
      rfl
    · rw [if_neg]
      · show (⟨_⟩ : Str) = _
        congr 1
        apply Array.ext'
        have := fold_rep c n #[]
        simpa using this
      · intro h
        rw [Bool.or_eq_true] at h
        rcases h with h | h
        · have : (n : Int) = 1 := by simpa using h
          omega
        · have : ([c].toArray.size == 0) = true := h
          simp at this
theorem st_mulX {n : Nat} (h : n ≤ 42) (q : Q (T (List.replicate n c)) H) : rMulS (T [c]) (.int (n : Int)) H Q :=
  ⟨_, _, rfl, rfl, mulOk_of 1 42 (Nat.le_refl 1) (by omega) (by omega) (by decide) (by decide), by rw [mul_one_T]; exact q⟩
end
/-! None in a list of tuples and None -/
def rInN (K : PySem.W.Frag) : R2 := fun x y H Q => ∃ p xs, x = .non ∧ y = .ref p ∧ SqL K H p xs ∧ (∀ v ∈ xs, v = .non ∨ ∃ a ys, v = .ref a ∧ Tw.Ft H a ys) ∧ ∀ c : Bool, (c = true ↔ V.non ∈ xs) → Q (.bl c) H
def isNone : Value → Bool
  | .none => true
  | _ => false
section
variable {X : Cx}
theorem op_inN (hu : X.A.units + 64 < cLine) : OpR X (compareOp .In) (rInN X.K) := by
  intro pins s σ H x y v u Q I rx ry h
  obtain ⟨p, xs, rfl, rfl, hq, hx, q⟩ := h
  cases (show u = Value.ref p from ry)
  cases (show v = Value.none from rx)
  obtain ⟨its, ri, pl, hz⟩ := I.list hq
  have all : ∀ {xs : List V} {us : List Value}, Vals xs us → (∀ v ∈ xs, v = .non ∨ ∃ a ys, v = .ref a ∧ Tw.Ft H a ys) → (∀ w ∈ us, SeqAt.EqAt X.A.in1 s w .none (isNone w)) ∧ (us.any isNone = true ↔ V.non ∈ xs) := by
    intro xs us hv
    induction hv with
    | nil => exact fun _ => ⟨fun w hw => (by cases hw), by simp⟩
    | cons r t ih =>
      rename_i y u ys us
      intro hh
      obtain ⟨i1, i2⟩ := ih fun v hv => hh v (List.mem_cons_of_mem _ hv)
      rcases hh y List.mem_cons_self with rfl | ⟨a, zs, rfl, ft⟩
      · cases (show u = Value.none from r)
        refine ⟨fun w hw => ?_, by simp [isNone]⟩
        rcases List.mem_cons.mp hw with rfl | hw
        · exact SeqAt.EqAt.same _
        · exact i1 w hw
      · cases (show u = Value.ref a from r)
        refine ⟨fun w hw => ?_, ?_⟩
        · rcases List.mem_cons.mp hw with rfl | hw
          · obtain ⟨qs, ra⟩ := (DV.tup (SqT.of ft.1) (dvs_flat ft.2) : DV X.K H (.ref a) _).reads I (show RelV (.ref a) (.ref a) from rfl)
            have q1 := SeqAt.eqAt_reads _ .none X.A.in1 s _ _ _ _ ra Reads.none (SeqAt.canLay_of_shaped (shapedT ft.2)) rfl (by
              have h2 := SeqAt.depth_of_shaped (shapedT ft.2)
              rw [Around.in1_units]
              have : PyData.depth .none ≤ 1 := by simp [PyData.depth]
              omega)
            exact q1
          · exact i1 w hw
        · rw [List.any_cons, show isNone (Value.ref a) = false from rfl, Bool.false_or, i2]
          simp
  obtain ⟨h1, h2⟩ := all ri hx
  refine SeqAt.in_listAt isNone pl.isList (fun w hw => h1 w (by simpa using hw)) ⟨.bl _, H, I, rfl, ?_⟩
  rw [show its.toArray.any isNone = its.any isNone by simp]
  exact q _ h2
end
theorem st_inN {K : PySem.W.Frag} {H : Hp} {Q : VK} {p : Addr} {xs : List V} (hq : SqL K H p xs) (hx : ∀ v ∈ xs, v = .non ∨ ∃ a ys, v = .ref a ∧ Tw.Ft H a ys) (q : ∀ c : Bool, (c = true ↔ V.non ∈ xs) → Q (.bl c) H) : rInN K .non (.ref p) H Q := ⟨p, xs, rfl, rfl, hq, hx, q⟩
theorem eqv_nilL (ds : List PyData) : PyData.eqv (.list ds) (.list []) = ds.isEmpty := by
  cases ds <;> simp [PyData.eqv, PyData.eqvAll]
theorem st_neNil {K : PySem.W.Frag} {H : Hp} {Q : VK} {a b : Addr} {xs : List V} (ha : SqL K H a xs) (hf : xs.all okV = true) (hb : SqL K H b []) (q : Q (.bl (!xs.isEmpty)) H) : rNeD K (.ref a) (.ref b) H Q :=
  ⟨_, _, .lst ha (dvs_flat hf), .lst hb .nil, shapedL hf, shapedL (xs := []) rfl, by rw [eqv_nilL]; rw [show (xs.map dV).isEmpty = xs.isEmpty by cases xs <;> rfl]; exact q⟩
theorem st_eqNil {K : PySem.W.Frag} {H : Hp} {Q : VK} {a b : Addr} (ha : SqL K H a []) (hb : SqL K H b []) (q : Q (.bl true) H) : rEqD K (.ref a) (.ref b) H Q :=
  ⟨_, _, .lst ha .nil, .lst hb .nil, shapedL (xs := []) rfl, shapedL (xs := []) rfl, by rw [eqv_nilL]; exact q⟩
theorem exm2 {K : PySem.W.Frag} {c a b : Value} {x y : Bool} (h1 : PySem.W.exmOne K c a = some x) (h2 : PySem.W.exmOne K c b = some y) : PySem.W.exmAny K c [a, b] = some (x || y) := by
  unfold PySem.W.exmAny
  rw [h1]
  unfold PySem.W.exmAny
  rw [h2]
  unfold PySem.W.exmAny
  simp
end L2
namespace Tw
open PySem L2
/-! what is read out of a text -/
/-- the part p of a text reads as the step s -/
def Rd (n : Nat) (p : List Nat) (s : Sx) : Prop := s.Ok n ∧ s.ws n = spl p [32]
theorem Rd.tx {n : Nat} {p : List Nat} {s : Sx} (h : Rd n p s) : s.tx n = p := by
  unfold Sx.tx
  rw [h.2, spl_join]
theorem wdL_inj {k k' : DK} (h : wdL k = wdL k') : k = k' := by
  refine word_inj ?_
  have h1 := str_T k.word
  have h2 := str_T k'.word
  rw [h1, h2]
  exact congrArg (fun l : List Nat => (⟨l.toArray⟩ : Str)) h
theorem dec_inj {w w' : List Nat} (h1 : ∀ i ∈ w, i < 40) (h2 : ∀ i ∈ w', i < 40) (h : (w.map fun i : Nat => dec (i : Int)) = w'.map fun i : Nat => dec (i : Int)) : w = w' := by
  have e : ∀ w : List Nat, (∀ i ∈ w, i < 40) → (w.map fun i : Nat => dec (i : Int)).map NumText.digitsVal = w := fun w hw => by
    rw [List.map_map]
    refine (List.map_congr_left fun i hi => ?_).trans (List.map_id w)
    exact (dec_rdOk (hw i hi)).2
  rw [← e w h1, ← e w' h2, h]
theorem Rd.uniq {n : Nat} {p : List Nat} {s t : Sx} (hn : n ≤ 40) (h : Rd n p s) (h' : Rd n p t) : s = t := by
  obtain ⟨ok, e⟩ := h
  obtain ⟨ok', e'⟩ := h'
  rw [← e'] at e
  cases s with
  | deed d =>
    cases t with
    | deed d' =>
      obtain ⟨k, w⟩ := d
      obtain ⟨k', w'⟩ := d'
      have e1 : wdL k :: (w.map fun i : Nat => dec (i : Int)) = wdL k' :: (w'.map fun i : Nat => dec (i : Int)) := e
      injection e1 with e1 e2
      have := wdL_inj e1
      subst this
      have := dec_inj (fun i hi => by have := Dd.Ok.lt ok i hi; omega) (fun i hi => by have := Dd.Ok.lt ok' i hi; omega) e2
      subst this
      rfl
    | look x z =>
      have e1 : wdL d.k :: (d.w.map fun i : Nat => dec (i : Int)) = [[108, 111, 111, 107], signs x z n] := e
      injection e1 with e1 e2
      exact ((word_ok2 d.k).2.2.2.2 e1).elim
  | look x z =>
    cases t with
    | deed d =>
      have e1 : [[108, 111, 111, 107], signs x z n] = wdL d.k :: (d.w.map fun i : Nat => dec (i : Int)) := e
      injection e1 with e1 e2
      exact ((word_ok2 d.k).2.2.2.2 e1.symm).elim
    | look x' z' =>
      have e1 : [[108, 111, 111, 107], signs x z n] = [[108, 111, 111, 107], signs x' z' n] := e
      injection e1 with e1 e2
      injection e2 with e2 _
      obtain ⟨r1, r2⟩ := signs_inj ok.1 ok.2.1 ok'.1 ok'.2.1 e2
      rw [r1, r2]
/-- the text l reads as the work ss -/
def Rds (n : Nat) (l : List Nat) (ss : List Sx) : Prop := (l = [] ∧ ss = []) ∨ (l ≠ [] ∧ All2 (Rd n) (spl l [59, 32]) ss)
theorem Rds.ok {n : Nat} {l : List Nat} {ss : List Sx} (h : Rds n l ss) : ∀ s ∈ ss, s.Ok n := by
  rcases h with ⟨_, rfl⟩ | ⟨_, h⟩
  · intro s hs; cases hs
  · intro s hs
    obtain ⟨i, hi, e⟩ := List.getElem_of_mem hs
    have hl := h.len
    obtain ⟨t, ht, r⟩ := h.get (List.getElem?_eq_getElem (show i < (spl l [59, 32]).length by omega))
    rw [List.getElem?_eq_getElem hi, e] at ht
    cases ht
    exact r.1
theorem map_tx {n : Nat} : ∀ {ps : List (List Nat)} {ss : List Sx}, All2 (Rd n) ps ss → ss.map (Sx.tx n) = ps
  | _, _, .nil => rfl
  | _, _, .cons h t => by rw [List.map_cons, h.tx, map_tx t]
theorem Rds.text {n : Nat} {l : List Nat} {ss : List Sx} (h : Rds n l ss) : inter [59, 32] (ss.map (Sx.tx n)) = l := by
  rcases h with ⟨rfl, rfl⟩ | ⟨_, h⟩
  · rfl
  · rw [map_tx h, spl_join]
theorem all_uniq {n : Nat} (hn : n ≤ 40) : ∀ {ps : List (List Nat)} {ss ts : List Sx}, All2 (Rd n) ps ss → All2 (Rd n) ps ts → ss = ts
  | _, _, _, .nil, .nil => rfl
  | _, _, _, .cons h t, .cons h' t' => by rw [h.uniq hn h', all_uniq hn t t']
theorem Rds.uniq {n : Nat} {l : List Nat} {ss ts : List Sx} (hn : n ≤ 40) (h : Rds n l ss) (h' : Rds n l ts) : ss = ts := by
  rcases h with ⟨rfl, rfl⟩ | ⟨hl, h⟩
  · rcases h' with ⟨_, rfl⟩ | ⟨hl, _⟩
    · rfl
    · exact (hl rfl).elim
  · rcases h' with ⟨rfl, _⟩ | ⟨_, h'⟩
    · exact (hl rfl).elim
    · exact all_uniq hn h h'
theorem inter_ge (s : List Nat) : ∀ ls : List (List Nat), ls.length * s.length ≤ (inter s ls).length + s.length
  | [] => by simp
  | [l] => by
    show 1 * s.length ≤ l.length + s.length
    omega
  | l :: m :: r => by
    have h := inter_ge s (m :: r)
    show ((m :: r).length + 1) * s.length ≤ (l ++ s ++ inter s (m :: r)).length + s.length
    rw [Nat.succ_mul, List.length_append, List.length_append]
    omega
theorem spl_len (l y : List Nat) (hy : 0 < y.length) : (spl l y).length ≤ l.length + 1 := by
  have h := inter_ge y (spl l y)
  rw [spl_join] at h
  have h2 : (spl l y).length * 1 ≤ (spl l y).length * y.length := Nat.mul_le_mul_left _ hy
  by_cases c : (spl l y).length = 0
  · omega
  · obtain ⟨k, e⟩ : ∃ k, (spl l y).length = k + 1 := ⟨(spl l y).length - 1, by omega⟩
    rw [e, Nat.succ_mul] at h
    have h3 : k * 1 ≤ k * y.length := Nat.mul_le_mul_left _ hy
    omega
theorem mem_inter {c : Nat} {s : List Nat} : ∀ {ls : List (List Nat)} {l : List Nat}, l ∈ ls → c ∈ l → c ∈ inter s ls
  | [m], l, h, hc => by rw [List.mem_singleton.1 h] at hc; exact hc
  | m :: m2 :: r, l, h, hc => by
    show c ∈ m ++ s ++ inter s (m2 :: r)
    rcases List.mem_cons.1 h with rfl | h
    · exact List.mem_append_left _ (List.mem_append_left _ hc)
    · exact List.mem_append_right _ (mem_inter h hc)
theorem len_inter {s : List Nat} : ∀ {ls : List (List Nat)} {l : List Nat}, l ∈ ls → l.length ≤ (inter s ls).length
  | [m], l, h => by rw [List.mem_singleton.1 h]; exact Nat.le_refl _
  | m :: m2 :: r, l, h => by
    show l.length ≤ (m ++ s ++ inter s (m2 :: r)).length
    rw [List.length_append, List.length_append]
    rcases List.mem_cons.1 h with rfl | h
    · omega
    · have := len_inter (s := s) h
      omega
theorem spl_part {l y p : List Nat} (h : p ∈ spl l y) : p.length ≤ l.length ∧ ∀ c ∈ p, c ∈ l := by
  refine ⟨?_, fun c hc => ?_⟩
  · have := len_inter (s := y) h
    rwa [spl_join] at this
  · have := mem_inter (s := y) h hc
    rwa [spl_join] at this
/-- the parts of a text: the first, the others -/
theorem spl_cons (l y : List Nat) : ∃ p ps, spl l y = p :: ps := by
  cases h : spl l y with
  | nil => exact (spl_ne l y h).elim
  | cons p ps => exact ⟨p, ps, rfl⟩
theorem tail_len (s w : List Nat) (ws : List (List Nat)) : (inter s ws).length ≤ (inter s (w :: ws)).length := by
  cases ws with
  | nil => exact Nat.zero_le _
  | cons m r =>
    show _ ≤ (w ++ s ++ inter s (m :: r)).length
    rw [List.length_append]
    omega
theorem rd_deed {n : Nat} {p w : List Nat} {ws : List (List Nat)} {s : Sx} (hn : n ≤ 40) (h : Rd n p s) (e : spl p [32] = w :: ws) (hw : w ≠ [108, 111, 111, 107]) :
    ∃ d : Dd, s = .deed d ∧ d.Ok n ∧ wdL d.k = w ∧ ws = (d.w.map fun i : Nat => dec (i : Int)) ∧ ws.map NumText.digitsVal = d.w ∧ ∀ l ∈ ws, rdOk l := by
  obtain ⟨ok, h⟩ := h
  rw [e] at h
  cases s with
  | look x z =>
    have h1 : [[108, 111, 111, 107], signs x z n] = w :: ws := h
    injection h1 with h1 _
    exact (hw h1.symm).elim
  | deed d =>
    have h1 : wdL d.k :: (d.w.map fun i : Nat => dec (i : Int)) = w :: ws := h
    injection h1 with h1 h2
    subst h2
    have hlt : ∀ i ∈ d.w, i < 40 := fun i hi => by have := Dd.Ok.lt ok i hi; omega
    refine ⟨d, rfl, ok, h1, rfl, ?_, fun l hl => ?_⟩
    · rw [List.map_map]
      refine (List.map_congr_left fun i hi => ?_).trans (List.map_id _)
      exact (dec_rdOk (hlt i hi)).2
    · obtain ⟨i, hi, rfl⟩ := List.mem_map.1 hl
      exact (dec_rdOk (hlt i hi)).1
theorem rd_look {n : Nat} {p : List Nat} {ws : List (List Nat)} {s : Sx} (h : Rd n p s) (e : spl p [32] = [108, 111, 111, 107] :: ws) : ∃ x z, s = .look x z ∧ Sx.Ok n (.look x z) ∧ ws = [signs x z n] := by
  obtain ⟨ok, h⟩ := h
  rw [e] at h
  cases s with
  | deed d =>
    have h1 : wdL d.k :: (d.w.map fun i : Nat => dec (i : Int)) = [108, 111, 111, 107] :: ws := h
    injection h1 with h1 _
    exact ((word_ok2 d.k).2.2.2.2 h1).elim
  | look x z =>
    have h1 : [[108, 111, 111, 107], signs x z n] = [108, 111, 111, 107] :: ws := h
    injection h1 with _ h2
    exact ⟨x, z, rfl, ok, h2.symm⟩
theorem look_rd {n : Nat} {p : List Nat} {ws : List (List Nat)} {x z : Nat} (hn : 1 ≤ n) (ok : Sx.Ok n (.look x z)) (e : spl p [32] = [108, 111, 111, 107] :: ws) (h : signs x z n = inter [32] ws) : Rd n p (.look x z) := by
  refine ⟨ok, ?_⟩
  rw [e]
  show [[108, 111, 111, 107], signs x z n] = _
  have hne : ws ≠ [] := fun z' => by
    rw [z'] at h
    have := congrArg List.length h
    rw [signs_len] at this
    simp [inter] at this
    omega
  have hf : ∀ l ∈ ws, 32 ∉ l := fun l hl => spl_free p 32 l (by rw [e]; exact List.mem_cons_of_mem _ hl)
  have : ws = [signs x z n] := inter_inj (c := 32) hne (by simp) hf (fun l hl => by
    rw [List.mem_singleton.1 hl]
    exact fun z' => by
      have := (signs_mem z').1
      revert this
      decide) (by rw [← h]; rfl)
  rw [this]
theorem deed_rd {n : Nat} {p : List Nat} {ws : List (List Nat)} {k : DK} (hn : n ≤ 40) (e : spl p [32] = wdL k :: ws) (h : ∀ l ∈ ws, rdOk l) (hl : ws.length = k.n) (hlt : ∀ l ∈ ws, NumText.digitsVal l < n) (nd : (ws.map NumText.digitsVal).Nodup) : Rd n p (.deed ⟨k, ws.map NumText.digitsVal⟩) := by
  refine ⟨⟨by rw [List.length_map]; exact hl, fun x hx => ?_, nd⟩, ?_⟩
  · obtain ⟨l, hl, rfl⟩ := List.mem_map.1 hx
    exact hlt l hl
  · rw [e]
    show wdL k :: ((ws.map NumText.digitsVal).map fun i : Nat => dec (i : Int)) = _
    rw [List.map_map]
    congr 1
    refine (List.map_congr_left fun l hl => ?_).trans (List.map_id _)
    exact (rd_dec (h l hl) (by have := hlt l hl; omega)).1
theorem tab_no {s : Str} (h : ∀ k : DK, k.word ≠ s) : tabAt s tabW = none := by
  have h1 : ("over" : Str) ≠ s := h .over
  have h2 : ("quarter" : Str) ≠ s := h .quarter
  have h3 : ("back" : Str) ≠ s := h .back
  have h4 : ("both" : Str) ≠ s := h .both
  have h5 : ("where" : Str) ≠ s := h .wher
  have h6 : ("swap" : Str) ≠ s := h .swap
  unfold tabW
  simp [tabAt, PyProof.Rows.KTD.datumAt, h1, h2, h3, h4, h5, h6, Ne.symm h1, Ne.symm h2, Ne.symm h3, Ne.symm h4, Ne.symm h5, Ne.symm h6]
theorem ok_asc {l : List Nat} (h : ∀ c ∈ l, c < 128) : PyData.strOk ⟨l.toArray⟩ = true := by
  unfold PyData.strOk
  simp only [List.all_toArray, List.all_eq_true, decide_eq_true_eq]
  exact fun c hc => by have := h c hc; omega
end Tw

set_option Elab.async false
set_option linter.all false
set_option maxRecDepth 100000
set_option maxHeartbeats 30000000
namespace L2
open PySem
theorem boot_all : bootBuiltins "all" = some (.builtin "all") := by decide +kernel
theorem boot_sum : bootBuiltins "sum" = some (.builtin "sum") := by decide +kernel
end L2
namespace Tw
open PySem L2
local macro_rules | `(tactic| fail "la") => `(tactic| first | (with_reducible assumption) | exact upd_same | (with_reducible refine' upd_get ?s1 ?s2; (case s1 => with_reducible assumption); (case s2 => fail "la")))
local macro_rules | `(tactic| fail "sq") => `(tactic| first | (with_reducible assumption) | (with_reducible apply SqT.of upd_same) | (with_reducible apply SqL.of upd_same) | (with_reducible apply SqT.of; with_reducible assumption) | (with_reducible apply SqL.of; with_reducible assumption) | (with_reducible apply SqT.upd <;> first | (with_reducible assumption) | fail "sq") | (with_reducible apply SqL.upd <;> first | (with_reducible assumption) | fail "sq") | (with_reducible refine' Same.tup ?s1 ?s2; (case s1 => with_reducible assumption); (case s2 => fail "sq")) | (with_reducible refine' Same.seq ?s1 ?s2; (case s1 => with_reducible assumption); (case s2 => fail "sq")))
local macro_rules | `(tactic| fail "st") => `(tactic| dsimp only [cxOf_K])
local macro_rules | `(tactic| fail "sd") => `(tactic| first | omega | exact pow_pos2 _ | exact pow_le100 (by omega) | exact cdivw_pow (by omega) | exact cpow_n (by omega) | exact ⟨by decide, by decide⟩ | exact .inl ⟨by decide, by decide⟩ | decide)
local macro_rules | `(tactic| fail "tv") => `(tactic| ((with_reducible refine' st_var ?e1 ?h1); (case e1 => exact rfl)))
local macro_rules | `(tactic| fail "tx") => `(tactic| ((with_reducible refine' st_ixT ?s1 ?e1 ?h1); (case s1 => fail "sq"); (case e1 => exact rfl)))
local macro_rules | `(tactic| fail "tl") => `(tactic| ((with_reducible refine' st_ixL ?s1 ?e1 ?h1); (case s1 => fail "sq"); (case e1 => first | assumption | exact rfl)))
local macro_rules | `(tactic| fail "tg") => `(tactic| ((with_reducible refine' st_gtup ?s1 ?e1 ?h1); (case s1 => fail "sq"); (case e1 => exact rfl)))
local macro_rules | `(tactic| fail "ti") => `(tactic| ((with_reducible refine st_i ?c1 ?h1); (case c1 => fail "sd")))
local macro_rules | `(tactic| fail "ts") => `(tactic| ((with_reducible refine st_shl1 ?c1 ?h1); (case c1 => fail "sd")))
local macro_rules | `(tactic| fail "tm") => `(tactic| ((with_reducible refine st_modN ?c1 ?h1); (case c1 => fail "sd"); intro _ _ _))
local macro_rules | `(tactic| fail "td") => `(tactic| ((with_reducible refine st_divN ?c1 ?c2 ?h1); (case c1 => fail "sd"); (case c2 => fail "sd")))
local macro_rules | `(tactic| fail "tz") => `(tactic| ((with_reducible refine st_size ?c1 ?h1); (case c1 => exact rfl)))
local macro_rules | `(tactic| fail "sl") => `(tactic| ((with_reducible refine' st_slL ?s1 ?h1); (case s1 => fail "sq")))
local macro_rules | `(tactic| fail "n2") => `(tactic| ((with_reducible first | refine' rNeD_2 ?s1 ?s2 ?h1 | refine' rEqD_2 ?s1 ?s2 ?h1 | refine' rNeD_3 ?s1 ?s2 ?h1 | refine' rEqD_3 ?s1 ?s2 ?h1); (case s1 => fail "sq"); (case s2 => fail "sq")))
local macro_rules | `(tactic| fail "sm") => `(tactic| first | (with_reducible assumption) | exact Same.refl _ | (with_reducible refine' Same.updR ?s1 ?s2; (case s2 => with_reducible assumption); (case s1 => fail "sm")) | (with_reducible refine' Same.trans ?s1 ?s2; (case s2 => with_reducible assumption); (case s1 => fail "sm")))
local macro_rules | `(tactic| fail "is") => `(tactic| ((with_reducible refine' st_isi ?s1 ?s2 ?h1); (case s1 => first | exact TyOf.bl _ | exact TyOf.int _ | exact TyOf.str _ | exact TyOf.non | exact TyOf.tup upd_same | exact TyOf.lst upd_same | (with_reducible refine' TyOf.tup ?e9; (case e9 => fail "la")) | (with_reducible refine' TyOf.lst ?e9; (case e9 => fail "la")) | exact TyOf.dK upd_same); (case s2 => first | exact kit_NoneType_int | exact kit_NoneType_bool | exact kit_NoneType_str | exact kit_NoneType_tuple | exact kit_NoneType_list | exact kit_NoneType_dict | exact kit_bool_int | exact kit_bool_bool | exact kit_bool_str | exact kit_bool_tuple | exact kit_bool_list | exact kit_bool_dict | exact kit_int_int | exact kit_int_bool | exact kit_int_str | exact kit_int_tuple | exact kit_int_list | exact kit_int_dict | exact kit_str_int | exact kit_str_bool | exact kit_str_str | exact kit_str_tuple | exact kit_str_list | exact kit_str_dict | exact kit_list_int | exact kit_list_bool | exact kit_list_str | exact kit_list_tuple | exact kit_list_list | exact kit_list_dict | exact kit_tuple_int | exact kit_tuple_bool | exact kit_tuple_str | exact kit_tuple_tuple | exact kit_tuple_list | exact kit_tuple_dict | exact kit_dict_int | exact kit_dict_bool | exact kit_dict_str | exact kit_dict_tuple | exact kit_dict_list | exact kit_dict_dict)))
local macro_rules | `(tactic| fail "h0") => `(tactic| first | with_reducible refine st_andS ?_ | with_reducible refine st_andB ?_ | with_reducible refine st_and1 ?_ | with_reducible refine st_chain ?_ | with_reducible refine st_dnew ?_ | with_reducible refine st_yes ?_ | ((with_reducible refine' st_lstT ?s1 ?h1); (case s1 => fail "sq")) | with_reducible refine st_raise ?_ | with_reducible refine st_try ?_ | ((with_reducible refine st_shlB ?c1 ?h1); (case c1 => omega)) | ((with_reducible refine' st_in01 ?s1 ?c1 ?h1); (case s1 => fail "sq"); (case c1 => omega)))
local macro_rules | `(tactic| fail "h1") => `(tactic| with_reducible first | refine st_seq ?_ | refine st_asg ?_ | refine st_gname ?_ | refine st_op ?_ | refine st_c ?_ | refine st_if ?_ | refine st_ret ?_ | refine st_test ?_ | refine st_bl ?_ | refine st_cons ?_ | refine st_nil ?_ | refine st_call ?_ | refine st_tup ?_ | refine st_and ?_ | refine st_or ?_ | refine st_not ?_ | refine st_andN ?_ | refine st_orN ?_ | refine st_xorN ?_ | refine st_bit ?_ | refine st_i0 ?_ | refine st_shrN ?_ | refine st_eqi ?_ | refine st_nei ?_ | refine st_eqb ?_ | refine st_neb ?_ | refine st_eqs ?_ | refine st_nes ?_ | refine st_cb ?_ | refine st_lst ?_ | refine st_next ?_ | refine st_retN ?_ | refine st_drop ?_ | refine st_gcons ?_ | refine st_gnil ?_ | refine st_un ?_ | refine st_u ?_ | refine st_tB ?_ | refine st_andV ?_ | refine st_orV ?_ | refine st_notV ?_ | refine st_ifE ?_ | refine st_part ?_ | refine st_int ?_ | refine st_nopart ?_ | refine st_sl ?_)
local macro_rules | `(tactic| fail "h2") => `(tactic| first | with_reducible refine st_bm0 ?_ | with_reducible refine st_bm ?_ | with_reducible refine st_tyI ?_ | with_reducible refine st_tyS ?_ | with_reducible refine st_bitlen ?_ | ((with_reducible refine' st_tyL ?s1 ?h1); (case s1 => fail "sq")) | ((with_reducible refine' st_lenL ?s1 ?h1); (case s1 => fail "sq")) | ((with_reducible refine' st_lenT ?s1 ?h1); (case s1 => fail "sq")) | ((with_reducible refine' st_cat ?s1 ?s2 ?s3 ?h1); (case s1 => fail "la"); (case s2 => fail "la"); (case s3 => first | omega | (simp only [List.length_append, List.length_map, List.length_cons, List.length_nil]; omega))) | ((with_reducible refine' st_append ?s1 ?s2 ?h1); (case s1 => fail "la"); (case s2 => first | omega | (simp only [List.length_append, List.length_map, List.length_cons, List.length_nil]; omega))))
local macro_rules | `(tactic| fail "go") => `(tactic| repeat (first | fail "tv" | fail "h0" | fail "h1" | fail "tx" | fail "tl" | fail "ts" | fail "tm" | fail "td" | fail "ti" | fail "tz" | fail "tg" | fail "sl" | fail "n2" | fail "is" | fail "h2" | with_reducible refine iteT ?_ | with_reducible refine iteF ?_ | with_reducible refine iteNT ?_ | with_reducible refine iteNF ?_ | with_reducible refine (fun (p : Addr) (hp : _ = none) => ?_ : ∀ p : Addr, _ = none → _) | dsimp only [Bool.not_true, Bool.not_false]))
local macro_rules | `(tactic| fail "h2") => `(tactic| with_reducible first | refine st_fld ?_ | refine st_put ?_ | refine st_make ?_ | refine st_md ?_ | refine st_intB ?_)
local macro_rules | `(tactic| fail "tx") => `(tactic| ((with_reducible refine' st_ixT ?s1 ?e1 ?h1); (case s1 => fail "sq"); (case e1 => first | exact at0 _ _ | exact at1 _ _ _)))
local macro_rules | `(tactic| fail "h0") => `(tactic| with_reducible first | refine st_xorBB ?_ | refine st_xorNB ?_ | refine st_sub1B ?_)
local macro_rules | `(tactic| fail "kw1") => `(tactic| first | ((with_reducible refine' ite_t ?e9 ?h9); (case e9 => decide +kernel)) | ((with_reducible refine' ite_f ?e9 ?h9); (case e9 => decide +kernel)))
local macro_rules | `(tactic| fail "kw") => `(tactic| (fail "go"; repeat (fail "kw1"; fail "go")))
theorem hu_of64 {A : Around} {k : Nat} (hr : Room k A) : A.units + 64 < cLine := hr.units
local macro_rules | `(tactic| fail "h0") => `(tactic| with_reducible refine st_par ?_)
theorem lit0 : ("" : Str) = ⟨([] : List Nat).toArray⟩ := by decide +kernel
theorem lit1 : ("+" : Str) = ⟨[43].toArray⟩ := by decide +kernel
theorem lit2 : ("-" : Str) = ⟨[45].toArray⟩ := by decide +kernel
theorem lit3 : ("." : Str) = ⟨[46].toArray⟩ := by decide +kernel
theorem lit4 : ("x" : Str) = ⟨[120].toArray⟩ := by decide +kernel
theorem lit5 : ("y" : Str) = ⟨[121].toArray⟩ := by decide +kernel
theorem lit6 : ("z" : Str) = ⟨[122].toArray⟩ := by decide +kernel
theorem lit7 : (" " : Str) = ⟨[32].toArray⟩ := by decide +kernel
theorem lit8 : ("w" : Str) = ⟨[119].toArray⟩ := by decide +kernel
theorem lit9 : ("0" : Str) = ⟨[48].toArray⟩ := by decide +kernel
theorem lit10 : ("*" : Str) = ⟨[42].toArray⟩ := by decide +kernel
theorem lit11 : ("\n" : Str) = ⟨[10].toArray⟩ := by decide +kernel
theorem lit12 : ("+-" : Str) = ⟨[43, 45].toArray⟩ := by decide +kernel
theorem lit13 : (".xyz" : Str) = ⟨[46, 120, 121, 122].toArray⟩ := by decide +kernel
theorem lit14 : (".xzy" : Str) = ⟨[46, 120, 122, 121].toArray⟩ := by decide +kernel
theorem lit15 : ("-y" : Str) = ⟨[45, 121].toArray⟩ := by decide +kernel
theorem lit16 : ("look " : Str) = ⟨[108, 111, 111, 107, 32].toArray⟩ := by decide +kernel
theorem lit17 : ("; " : Str) = ⟨[59, 32].toArray⟩ := by decide +kernel
theorem lit18 : ("0123456789" : Str) = ⟨[48, 49, 50, 51, 52, 53, 54, 55, 56, 57].toArray⟩ := by decide +kernel
theorem lit19 : ("look" : Str) = ⟨[108, 111, 111, 107].toArray⟩ := by decide +kernel
theorem lit20 : (" ;0-+.xyzk9\nA" : Str) = ⟨[32, 59, 48, 45, 43, 46, 120, 121, 122, 107, 57, 10, 65].toArray⟩ := by decide +kernel
theorem lit21 : ("; over 0" : Str) = ⟨[59, 32, 111, 118, 101, 114, 32, 48].toArray⟩ := by decide +kernel
theorem lit22 : ("; both " : Str) = ⟨[59, 32, 98, 111, 116, 104, 32].toArray⟩ := by decide +kernel
theorem lit23 : ("; where " : Str) = ⟨[59, 32, 119, 104, 101, 114, 101, 32].toArray⟩ := by decide +kernel
theorem lit24 : ("; look " : Str) = ⟨[59, 32, 108, 111, 111, 107, 32].toArray⟩ := by decide +kernel
theorem lit25 : ("; look x" : Str) = ⟨[59, 32, 108, 111, 111, 107, 32, 120].toArray⟩ := by decide +kernel
theorem lit26 : ("; look +" : Str) = ⟨[59, 32, 108, 111, 111, 107, 32, 43].toArray⟩ := by decide +kernel
theorem lit27 : (";over " : Str) = ⟨[59, 111, 118, 101, 114, 32].toArray⟩ := by decide +kernel
theorem lit28 : ("; swap " : Str) = ⟨[59, 32, 115, 119, 97, 112, 32].toArray⟩ := by decide +kernel
theorem lit29 : ("; quarter " : Str) = ⟨[59, 32, 113, 117, 97, 114, 116, 101, 114, 32].toArray⟩ := by decide +kernel
theorem lit30 : ("; look" : Str) = ⟨[59, 32, 108, 111, 111, 107].toArray⟩ := by decide +kernel
theorem lit31 : ("; back -1" : Str) = ⟨[59, 32, 98, 97, 99, 107, 32, 45, 49].toArray⟩ := by decide +kernel
theorem lit32 : ("none" : Str) = ⟨[110, 111, 110, 101].toArray⟩ := by decide +kernel
theorem lit33 : ("xy" : Str) = ⟨[120, 121].toArray⟩ := by decide +kernel
theorem lit34 : ("zy" : Str) = ⟨[122, 121].toArray⟩ := by decide +kernel
local macro_rules | `(tactic| fail "lit") => `(tactic| simp only [lit0, lit1, lit2, lit3, lit4, lit5, lit6, lit7, lit8, lit9, lit10, lit11, lit12, lit13, lit14, lit15, lit16, lit17, lit18, lit19, lit20, lit21, lit22, lit23, lit24, lit25, lit26, lit27, lit28, lit29, lit30, lit31, lit32, lit33, lit34])
local macro_rules | `(tactic| fail "ln") => `(tactic| first | omega | decide | (with_reducible assumption) | (simp only [cutN, List.length_append, List.length_take, List.length_drop, List.length_cons, List.length_nil, List.length_replicate]; omega))
local macro_rules | `(tactic| fail "h0") => `(tactic| ((with_reducible refine st_shr1 ?c1 ?h1); (case c1 => omega)))
local macro_rules | `(tactic| fail "h2") => `(tactic| first | ((with_reducible refine st_addS ?c1 ?h1); (case c1 => fail "ln")) | with_reducible refine st_inS ?_ | with_reducible refine st_notInS ?_ | ((with_reducible refine st_slS ?c1 ?h1); (case c1 => fail "ln")) | ((with_reducible refine st_lenX ?c1 ?h1); (case c1 => fail "ln")) | with_reducible refine st_findS ?_ | ((with_reducible refine st_upperA ?c1 ?c2 ?h1); (case c1 => with_reducible assumption); (case c2 => omega); intro _ _ _) | ((with_reducible refine st_mulX ?c1 ?h1); (case c1 => omega)) | ((with_reducible refine st_lstX ?c1 ?h1); (case c1 => fail "ln")) | ((with_reducible refine' st_ixS ?c1 ?e1 ?h1); (case c1 => fail "ln"); (case e1 => first | exact at_zero _ _ | (with_reducible assumption) | exact rfl)))
def top (i : Nat) : Stmt := PySem.Challenge.pw_twinwires_k82_texts_of_no_work.main.body.getD i (.Pass ⟨0, 0, 0, 0⟩)
abbrev s__law_mixed : Stmt := top 48
theorem sc__law_mixed : FnScope ["_law_draw", "_law_k", "_law_number_here"] ["_law_draw", "_law_k"] (defScope s__law_mixed) := ⟨rfl, rfl, rfl, by decide +kernel, rfl, by decide +kernel, by decide +kernel⟩
abbrev s__law_spoilt : Stmt := top 53
theorem sc__law_spoilt : FnScope ["_law_text_here", "_law_draw", "_law_n", "_law_at", "_law_sign", "_law_k", "_law_some"] ["_law_text_here", "_law_draw", "_law_n"] (defScope s__law_spoilt) := ⟨rfl, rfl, rfl, by decide +kernel, rfl, by decide +kernel, by decide +kernel⟩
abbrev s__law_number : Stmt := top 54
theorem sc__law_number : FnScope ["_law_word", "_law_n", "_law_sign"] ["_law_word", "_law_n"] (defScope s__law_number) := ⟨rfl, rfl, rfl, by decide +kernel, rfl, by decide +kernel, by decide +kernel⟩
abbrev s__law_read_one : Stmt := top 55
theorem sc__law_read_one : FnScope ["_law_part", "_law_n", "_law_words_here", "_law_letters", "_law_xs", "_law_numbers"] ["_law_part", "_law_n"] (defScope s__law_read_one) := ⟨rfl, rfl, rfl, by decide +kernel, rfl, by decide +kernel, by decide +kernel⟩
abbrev s__law_read : Stmt := top 56
theorem sc__law_read : FnScope ["_law_text_here", "_law_n", "_law_found"] ["_law_text_here", "_law_n"] (defScope s__law_read) := ⟨rfl, rfl, rfl, by decide +kernel, rfl, by decide +kernel, by decide +kernel⟩
abbrev s_row_of : Stmt := top 20
theorem sc_row_of : FnScope ["text", "xs", "zs", "k", "sign", "place"] ["text"] (defScope s_row_of) := ⟨rfl, rfl, rfl, by decide +kernel, rfl, by decide +kernel, by decide +kernel⟩
abbrev s_read_row : Stmt := top 42
theorem sc_read_row : FnScope ["text", "n", "row"] ["text", "n"] (defScope s_read_row) := ⟨rfl, rfl, rfl, by decide +kernel, rfl, by decide +kernel, by decide +kernel⟩
abbrev s_ones : Stmt := top 4
theorem sc_ones : FnScope ["number", "found", "rest"] ["number"] (defScope s_ones) := ⟨rfl, rfl, rfl, by decide +kernel, rfl, by decide +kernel, by decide +kernel⟩
abbrev s_weight_of : Stmt := top 17
theorem sc_weight_of : FnScope ["row"] ["row"] (defScope s_weight_of) := ⟨rfl, rfl, rfl, by decide +kernel, rfl, by decide +kernel, by decide +kernel⟩
abbrev s_read_look : Stmt := top 45
theorem sc_read_look : FnScope ["letters", "n", "row"] ["letters", "n"] (defScope s_read_look) := ⟨rfl, rfl, rfl, by decide +kernel, rfl, by decide +kernel, by decide +kernel⟩
abbrev s_Deed_wires : Stmt := inClass (top 23) 2
theorem sc_Deed_wires : FnScope ["self"] ["self"] (defScope s_Deed_wires) := ⟨rfl, rfl, rfl, by decide +kernel, rfl, by decide +kernel, by decide +kernel⟩
abbrev s_Deed___init__ : Stmt := inClass (top 23) 0
theorem sc_Deed___init__ : FnScope ["self", "word", "undoer", "at"] ["self", "word", "undoer", "at"] (defScope s_Deed___init__) := ⟨rfl, rfl, rfl, by decide +kernel, rfl, by decide +kernel, by decide +kernel⟩
abbrev s_Swap___init__ : Stmt := inClass (top 29) 0
theorem sc_Swap___init__ : FnScope ["self", "j", "k"] ["self", "j", "k"] (defScope s_Swap___init__) := ⟨rfl, rfl, rfl, by decide +kernel, rfl, by decide +kernel, by decide +kernel⟩
abbrev s_Over___init__ : Stmt := inClass (top 24) 0
theorem sc_Over___init__ : FnScope ["self", "k"] ["self", "k"] (defScope s_Over___init__) := ⟨rfl, rfl, rfl, by decide +kernel, rfl, by decide +kernel, by decide +kernel⟩
abbrev s_Quarter___init__ : Stmt := inClass (top 25) 0
theorem sc_Quarter___init__ : FnScope ["self", "k"] ["self", "k"] (defScope s_Quarter___init__) := ⟨rfl, rfl, rfl, by decide +kernel, rfl, by decide +kernel, by decide +kernel⟩
abbrev s_Back___init__ : Stmt := inClass (top 26) 0
theorem sc_Back___init__ : FnScope ["self", "k"] ["self", "k"] (defScope s_Back___init__) := ⟨rfl, rfl, rfl, by decide +kernel, rfl, by decide +kernel, by decide +kernel⟩
abbrev s_Both___init__ : Stmt := inClass (top 27) 0
theorem sc_Both___init__ : FnScope ["self", "k"] ["self", "k"] (defScope s_Both___init__) := ⟨rfl, rfl, rfl, by decide +kernel, rfl, by decide +kernel, by decide +kernel⟩
abbrev s_Where___init__ : Stmt := inClass (top 28) 0
theorem sc_Where___init__ : FnScope ["self", "j", "k"] ["self", "j", "k"] (defScope s_Where___init__) := ⟨rfl, rfl, rfl, by decide +kernel, rfl, by decide +kernel, by decide +kernel⟩
abbrev s_is_whole_number : Stmt := top 3
theorem sc_is_whole_number : FnScope ["thing"] ["thing"] (defScope s_is_whole_number) := ⟨rfl, rfl, rfl, by decide +kernel, rfl, by decide +kernel, by decide +kernel⟩
abbrev s_check_words : Stmt := top 32
theorem sc_check_words : FnScope ["words", "at"] ["words"] (defScope s_check_words) := ⟨rfl, rfl, rfl, by decide +kernel, rfl, by decide +kernel, by decide +kernel⟩
abbrev s_deed_of_words : Stmt := top 31
theorem sc_deed_of_words : FnScope ["words", "word"] ["words"] (defScope s_deed_of_words) := ⟨rfl, rfl, rfl, by decide +kernel, rfl, by decide +kernel, by decide +kernel⟩
abbrev s_deed_of : Stmt := top 30
theorem sc_deed_of : FnScope ["words", "n", "deed"] ["words", "n"] (defScope s_deed_of) := ⟨rfl, rfl, rfl, by decide +kernel, rfl, by decide +kernel, by decide +kernel⟩
abbrev s_read_number : Stmt := top 41
theorem sc_read_number : FnScope ["text"] ["text"] (defScope s_read_number) := ⟨rfl, rfl, rfl, by decide +kernel, rfl, by decide +kernel, by decide +kernel⟩
abbrev s_read_step : Stmt := top 44
theorem sc_read_step : FnScope ["text", "n", "words", "step"] ["text", "n"] (defScope s_read_step) := ⟨rfl, rfl, rfl, by decide +kernel, rfl, by decide +kernel, by decide +kernel⟩
abbrev s_read_work : Stmt := top 43
theorem sc_read_work : FnScope ["text", "n"] ["text", "n"] (defScope s_read_work) := ⟨rfl, rfl, rfl, by decide +kernel, rfl, by decide +kernel, by decide +kernel⟩
abbrev s__law_told : Stmt := top 57
theorem sc__law_told : FnScope ["_law_text_here", "_law_n", "_law_found", "e", "_law_others"] ["_law_text_here", "_law_n"] (defScope s__law_told) := ⟨rfl, rfl, rfl, by decide +kernel, rfl, by decide +kernel, by decide +kernel⟩
abbrev s__law_cell_at : Stmt := top 47
theorem sc__law_cell_at : FnScope ["_law_script", "_law_k"] ["_law_script", "_law_k"] (defScope s__law_cell_at) := ⟨rfl, rfl, rfl, by decide +kernel, rfl, by decide +kernel, by decide +kernel⟩
abbrev s__law_bits : Stmt := top 50
theorem sc__law_bits : FnScope ["_law_draw", "_law_k", "_law_n", "_law_number_here"] ["_law_draw", "_law_k", "_law_n"] (defScope s__law_bits) := ⟨rfl, rfl, rfl, by decide +kernel, rfl, by decide +kernel, by decide +kernel⟩
abbrev s__law_signs : Stmt := top 51
theorem sc__law_signs : FnScope ["_law_draw", "_law_n", "_law_xs", "_law_zs", "_law_way", "_law_bit", "_law_other"] ["_law_draw", "_law_n"] (defScope s__law_signs) := ⟨rfl, rfl, rfl, by decide +kernel, rfl, by decide +kernel, by decide +kernel⟩
abbrev s__law_words : Stmt := top 49
theorem sc__law_words : FnScope ["_law_draw", "_law_n", "_law_way", "_law_k", "_law_j"] ["_law_draw", "_law_n"] (defScope s__law_words) := ⟨rfl, rfl, rfl, by decide +kernel, rfl, by decide +kernel, by decide +kernel⟩
abbrev s__law_text : Stmt := top 52
theorem sc__law_text : FnScope ["_law_draw", "_law_n", "_law_xs", "_law_zs"] ["_law_draw", "_law_n"] (defScope s__law_text) := ⟨rfl, rfl, rfl, by decide +kernel, rfl, by decide +kernel, by decide +kernel⟩
abbrev s_is_look : Stmt := top 34
theorem sc_is_look : FnScope ["step"] ["step"] (defScope s_is_look) := ⟨rfl, rfl, rfl, by decide +kernel, rfl, by decide +kernel, by decide +kernel⟩
abbrev s_bit_at : Stmt := top 5
theorem sc_bit_at : FnScope ["number", "k"] ["number", "k"] (defScope s_bit_at) := ⟨rfl, rfl, rfl, by decide +kernel, rfl, by decide +kernel, by decide +kernel⟩
abbrev s_sign_at : Stmt := top 19
theorem sc_sign_at : FnScope ["row", "k"] ["row", "k"] (defScope s_sign_at) := ⟨rfl, rfl, rfl, by decide +kernel, rfl, by decide +kernel, by decide +kernel⟩
abbrev s_letters_of : Stmt := top 18
theorem sc_letters_of : FnScope ["row", "n", "minus"] ["row", "n"] (defScope s_letters_of) := ⟨rfl, rfl, rfl, by decide +kernel, rfl, by decide +kernel, by decide +kernel⟩
abbrev s_look_row : Stmt := top 35
theorem sc_look_row : FnScope ["look"] ["look"] (defScope s_look_row) := ⟨rfl, rfl, rfl, by decide +kernel, rfl, by decide +kernel, by decide +kernel⟩
abbrev s_show_step : Stmt := top 40
theorem sc_show_step : FnScope ["step", "n"] ["step", "n"] (defScope s_show_step) := ⟨rfl, rfl, rfl, by decide +kernel, rfl, by decide +kernel, by decide +kernel⟩
abbrev s_show_work : Stmt := top 39
theorem sc_show_work : FnScope ["work", "n"] ["work", "n"] (defScope s_show_work) := ⟨rfl, rfl, rfl, by decide +kernel, rfl, by decide +kernel, by decide +kernel⟩
abbrev s_law : Stmt := top 58
theorem sc_law : FnScope ["_law_script", "_law_n", "_law_text_here", "_law_draw", "_law_bad", "_law_due", "_law_found"] ["_law_script"] (defScope s_law) := ⟨rfl, rfl, rfl, by decide +kernel, rfl, by decide +kernel, by decide +kernel⟩
structure Txt_D (K : PySem.W.Frag) (CD_D : DK → Addr) : Prop where
  cl : ∀ d, Cls K (CD_D d)
  n_word : ∀ d, NoAttr K (CD_D d) "word"
  n_undoer : ∀ d, NoAttr K (CD_D d) "undoer"
  n_at : ∀ d, NoAttr K (CD_D d) "at"
def CDof_D (C_Over C_Quarter C_Back C_Both C_Where C_Swap : Addr) : DK → Addr
  | .over => C_Over
  | .quarter => C_Quarter
  | .back => C_Back
  | .both => C_Both
  | .wher => C_Where
  | .swap => C_Swap
def word (r : Row) (n : Nat) : List Nat := minus r.m :: signs r.x r.z n
def NoStr (K : PySem.W.Frag) (H : Hp) (v : V) : Prop := v = .non ∨ (∃ i, v = .int i) ∨ ∃ a xs, v = .ref a ∧ H a = some (.lst xs)
theorem NoStr.ty {K : PySem.W.Frag} {H : Hp} {v : V} (h : NoStr K H v) : ∃ t, TyOf K H v t ∧ PySem.W.kitOne K t (.type "str") = some false := by
  rcases h with rfl | ⟨i, rfl⟩ | ⟨a, xs, rfl, e⟩
  · exact ⟨_, TyOf.non, kit_NoneType_str⟩
  · exact ⟨_, TyOf.int _, kit_int_str⟩
  · exact ⟨_, TyOf.lst e, kit_list_str⟩
theorem NoStr.same {K : PySem.W.Frag} {H H' : Hp} {v : V} (h : NoStr K H v) (hS : Same H H') : NoStr K H' v := by
  rcases h with rfl | ⟨i, rfl⟩ | ⟨a, xs, rfl, e⟩
  · exact .inl rfl
  · exact .inr (.inl ⟨i, rfl⟩)
  · exact .inr (.inr ⟨a, xs, rfl, hS _ _ e⟩)
def Thing (K : PySem.W.Frag) (H : Hp) (v : V) : Prop := NoStr K H v ∨ ∃ l, v = T l ∧ l.length ≤ 1000
def Bad (K : PySem.W.Frag) (H : Hp) (v : V) : Prop := NoStr K H v ∨ ∃ l, v = T l ∧ l.length ≤ 1000 ∧ ¬ Good l
theorem text_cases {K : PySem.W.Frag} {H : Hp} {v : V} {QQ : List Nat → Prop} {EE : Prop} (h : (∃ l, v = T l ∧ Good l ∧ QQ l) ∨ (Bad K H v ∧ EE)) :
    (∃ t, TyOf K H v t ∧ PySem.W.kitOne K t (.type "str") = some false ∧ EE) ∨ ∃ l, v = T l ∧ l.length ≤ 1000 ∧ (Good l → QQ l) ∧ (¬ Good l → EE) := by
  rcases h with ⟨l, rfl, g, q⟩ | ⟨ns | ⟨l, rfl, hl, g⟩, e⟩
  · have := g.2.1
    exact .inr ⟨l, rfl, by omega, fun _ => q, fun c => (c g).elim⟩
  · obtain ⟨t, ty, k⟩ := ns.ty
    exact .inl ⟨t, ty, k, e⟩
  · exact .inr ⟨l, rfl, hl, fun c => (g c).elim, fun _ => e⟩
def Er (E : XK) (C : Addr) (H : Hp) : Prop := ∀ H', Same H H' → E (.ref C) none H' ∧ E (.ref C) (some 0) H'
/-- what is handed in as a text -/
def Tx (l : List Nat) : Prop := l.length ≤ 890 ∧ ∀ c ∈ l, c < 128
def sp_ones (K : PySem.W.Frag) : Sp := fun vs H Q _ => ∃ n : Nat, vs = [.int n] ∧ Q (.int (pop n : Nat)) H
def sp_weight_of (K : PySem.W.Frag) : Sp := fun vs H Q _ => ∃ (a : Addr) (r : Row), vs = [.ref a] ∧ SqT K H a r.V ∧ Q (.int (pop (r.x ||| r.z) : Nat)) H
def sp_sign_at (K : PySem.W.Frag) : Sp := fun vs H Q _ => ∃ (a : Addr) (k : Nat) (r : Row), vs = [.ref a, .int k] ∧ SqT K H a r.V ∧ Q (T [sg (r.x.testBit k) (r.z.testBit k)]) H
def sp_letters_of (K : PySem.W.Frag) : Sp := fun vs H Q _ => ∃ (a : Addr) (n : Nat) (r : Row), vs = [.ref a, .int n] ∧ SqT K H a r.V ∧ n ≤ 40 ∧ ∀ H', Same H H' → Q (T (word r n)) H'
def sp_row_of (K : PySem.W.Frag) (C : Addr) : Sp := fun vs H Q E => ∃ v, vs = [v] ∧
  ((∃ l, v = T l ∧ Good l ∧ ∀ (r : Row) p H', Same H H' → H' p = some (.tup r.V) → r.Ok (l.length - 1) → word r (l.length - 1) = l → Q (.ref p) H') ∨ (Bad K H v ∧ ∀ H', Same H H' → E (.ref C) none H'))
def isLook : Sx → Bool
  | .deed _ => false
  | .look _ _ => true
def sp_is_look (K : PySem.W.Frag) : Sp := fun vs H Q _ => ∃ (a : Addr) (s : Sx) (n : Nat), vs = [.ref a] ∧ Sa H a s ∧ s.Ok n ∧ Q (.bl (isLook s)) H
def sp_look_row (K : PySem.W.Frag) : Sp := fun vs H Q _ => ∃ (a : Addr) (x z : Nat), vs = [.ref a] ∧ Sa H a (.look x z) ∧ ∀ p, H p = none → Q (.ref p) (upd H p (.tup (Row.mk 0 x z).V))
def sp_show_step (K : PySem.W.Frag) : Sp := fun vs H Q _ => ∃ (a : Addr) (n : Nat) (s : Sx), vs = [.ref a, .int n] ∧ Sa H a s ∧ s.Ok n ∧ n ≤ 40 ∧ ∀ H', Same H H' → Q (T (s.tx n)) H'
def sp_show_work (K : PySem.W.Frag) : Sp := fun vs H Q _ => ∃ (l : Addr) (n : Nat) (as : List Addr) (ss : List Sx), vs = [.ref l, .int n] ∧ H l = some (.lst (refs as)) ∧ as.length ≤ 901 ∧ n ≤ 40 ∧ All2 (Sa H) as ss ∧ (∀ s ∈ ss, s.Ok n) ∧ ∀ H', Same H H' → Q (T (inter [59, 32] (ss.map (Sx.tx n)))) H'
def sp_read_number (K : PySem.W.Frag) (C : Addr) : Sp := fun vs H Q E => ∃ l, vs = [T l] ∧ l.length ≤ 900 ∧ (rdOk l → ∀ H', Same H H' → Q (.int ((NumText.digitsVal l : Nat) : Int)) H') ∧ (¬ rdOk l → ∀ H', Same H H' → E (.ref C) none H')
def sp_read_row (K : PySem.W.Frag) (C : Addr) : Sp := fun vs H Q E => ∃ (l : List Nat) (n : Nat), vs = [T (43 :: l), .int n] ∧ l.length ≤ 900 ∧ 1 ≤ n ∧ n ≤ 40 ∧ (∀ (x z : Nat) p H', Same H H' → x < 2 ^ n → z < 2 ^ n → signs x z n = l → H' p = some (.tup (Row.mk 0 x z).V) → Q (.ref p) H') ∧ ((¬ ∃ x z, x < 2 ^ n ∧ z < 2 ^ n ∧ signs x z n = l) → ∀ H', Same H H' → E (.ref C) none H')
def sp_read_look (K : PySem.W.Frag) (C : Addr) : Sp := fun vs H Q E => ∃ (l : List Nat) (n : Nat), vs = [T l, .int n] ∧ l.length ≤ 899 ∧ 1 ≤ n ∧ n ≤ 40 ∧ (∀ (x z : Nat) p H', Same H H' → Sx.Ok n (.look x z) → signs x z n = l → Sa H' p (.look x z) → Q (.ref p) H') ∧ ((¬ ∃ x z, Sx.Ok n (.look x z) ∧ signs x z n = l) → ∀ H', Same H H' → E (.ref C) none H')
def sp_read_step (K : PySem.W.Frag) (C : Addr) : Sp := fun vs H Q E => ∃ (p : List Nat) (n : Nat), vs = [T p, .int n] ∧ Tx p ∧ 1 ≤ n ∧ n ≤ 40 ∧ (∀ s a H', Same H H' → Rd n p s → Sa H' a s → Q (.ref a) H') ∧ ((¬ ∃ s, Rd n p s) → Er E C H)
def sp_read_work (K : PySem.W.Frag) (C : Addr) : Sp := fun vs H Q E => ∃ (v : V) (n : Nat), vs = [v, .int n] ∧ 1 ≤ n ∧ n ≤ 40 ∧ ((NoStr K H v ∧ Er E C H) ∨ ∃ l, v = T l ∧ Tx l ∧ (∀ ss p as H', Same H H' → Rds n l ss → H' p = some (.lst (refs as)) → All2 (Sa H') as ss → Q (.ref p) H') ∧ ((¬ ∃ ss, Rds n l ss) → Er E C H))
def sp__law_cell_at (K : PySem.W.Frag) : Sp := fun vs H Q _ => ∃ (a : Addr) (k : Nat) (ns : List Int), vs = [.ref a, .int k] ∧ SqL K H a (ns.map V.int) ∧ ∀ c : Int, Q (.int c) H
def sp__law_mixed (K : PySem.W.Frag) : Sp := fun vs H Q _ => ∃ (c : Int) (k : Nat), vs = [.int c, .int k] ∧ k ≤ 100 ∧ ∀ m : Nat, m < 2147483629 → Q (.int m) H
def sp__law_bits (K : PySem.W.Frag) : Sp := fun vs H Q _ => ∃ (c : Int) (k n : Nat), vs = [.int c, .int k, .int n] ∧ k ≤ 90 ∧ n ≤ 40 ∧ ∀ m : Nat, m < 2 ^ n → Q (.int m) H
def sp__law_signs (K : PySem.W.Frag) : Sp := fun vs H Q _ => ∃ (c : Int) (n : Nat), vs = [.int c, .int n] ∧ 0 < n ∧ n ≤ 40 ∧ ∀ p H' (x z : Nat), Same H H' → H' p = some (.tup [.int x, .int z]) → Sx.Ok n (.look x z) → Q (.ref p) H'
def sp__law_words (K : PySem.W.Frag) : Sp := fun vs H Q _ => ∃ (c : Int) (n : Nat), vs = [.int c, .int n] ∧ 0 < n ∧ n ≤ 40 ∧ ∀ p H' (d : Dd), Same H H' → Sa H' p (.deed d) → d.Ok n → Q (.ref p) H'
def sp__law_text (K : PySem.W.Frag) : Sp := fun vs H Q _ => ∃ (c : Int) (n : Nat), vs = [.int c, .int n] ∧ 0 < n ∧ n ≤ 40 ∧ ∀ (s : Sx) H', Same H H' → s.Ok n → Q (T (s.tx n)) H'
def sp__law_spoilt (K : PySem.W.Frag) : Sp := fun vs H Q _ => ∃ (l : List Nat) (c : Int) (n : Nat), vs = [T l, .int c, .int n] ∧ 0 < n ∧ n ≤ 40 ∧ l.length ≤ 300 ∧ (∀ c ∈ l, c < 128) ∧ ∀ v H', Same H H' → (NoStr K H' v ∨ ∃ l, v = T l ∧ Tx l) → Q v H'
def sp__law_number (K : PySem.W.Frag) : Sp := fun vs H Q _ => ∃ (l : List Nat) (n : Nat), vs = [T l, .int n] ∧ l.length ≤ 900 ∧ 1 ≤ n ∧ n ≤ 40 ∧ (∀ k : Nat, k < n → l = dec (k : Int) → Q (.int (k : Int)) H) ∧ ((¬ ∃ k : Nat, k < n ∧ l = dec (k : Int)) → Q .non H)
def sp__law_read_one (K : PySem.W.Frag) : Sp := fun vs H Q _ => ∃ (p : List Nat) (n : Nat), vs = [T p, .int n] ∧ Tx p ∧ 1 ≤ n ∧ n ≤ 40 ∧ (∀ s a H', Same H H' → Rd n p s → Sa H' a s → Q (.ref a) H') ∧ ((¬ ∃ s, Rd n p s) → ∀ H', Same H H' → Q .non H')
def sp__law_read (K : PySem.W.Frag) : Sp := fun vs H Q _ => ∃ (v : V) (n : Nat), vs = [v, .int n] ∧ 1 ≤ n ∧ n ≤ 40 ∧ ((NoStr K H v ∧ ∀ H', Same H H' → Q .non H') ∨ ∃ l, v = T l ∧ Tx l ∧ (∀ ss p as H', Same H H' → Rds n l ss → H' p = some (.lst (refs as)) → All2 (Sa H') as ss → Q (.ref p) H') ∧ ((¬ ∃ ss, Rds n l ss) → ∀ H', Same H H' → Q .non H'))
def sp__law_told (K : PySem.W.Frag) : Sp := fun vs H Q _ => ∃ (v : V) (n : Nat), vs = [v, .int n] ∧ 1 ≤ n ∧ n ≤ 40 ∧ ((NoStr K H v ∧ ∀ H', Same H H' → Q (T [110, 111, 110, 101]) H') ∨ ∃ l, v = T l ∧ Tx l ∧ (∀ ss p as H', Same H H' → Rds n l ss → H' p = some (.lst (refs as)) → All2 (Sa H') as ss → Q (.ref p) H') ∧ ((¬ ∃ ss, Rds n l ss) → ∀ H', Same H H' → Q (T [110, 111, 110, 101]) H'))
def sp_law (K : PySem.W.Frag) : Sp := fun vs H Q _ => ∃ (a : Addr) (ns : List Int), vs = [.ref a] ∧ SqL K H a (ns.map V.int) ∧ ns.length ≤ 63 ∧ ∀ H', Q (.bl true) H'
theorem nodup_int : ∀ {l : List Nat}, l.Nodup → (l.map fun x : Nat => (x : Int)).Nodup
  | [], _ => by simp
  | x :: r, h => by
    rw [List.nodup_cons] at h
    rw [List.map_cons, List.nodup_cons]
    refine ⟨fun z => ?_, nodup_int h.2⟩
    obtain ⟨y, hy, e⟩ := List.mem_map.mp z
    have e2 : y = x := Int.ofNat_inj.mp e
    rw [e2] at hy
    exact h.1 hy
theorem vn_rng {d : Dd} {n : Nat} (ok : d.Ok n) : ∀ i ∈ d.w.map (fun x : Nat => (x : Int)), 0 ≤ i ∧ i < (n : Int) := fun i hi => by
  obtain ⟨x, hx, rfl⟩ := List.mem_map.mp hi
  have := ok.lt x hx
  omega
theorem vn_at {l : List Nat} {i : Nat} {x : V} (h : (vn l)[i]? = some x) : ∃ k : Nat, x = .int k ∧ l[i]? = some k := by
  unfold vn at h
  rw [List.getElem?_map] at h
  cases e : l[i]? with
  | none => rw [e] at h; cases h
  | some k => rw [e] at h; exact ⟨k, (Option.some.inj h).symm, rfl⟩
theorem no_look (k : DK) : decide (k.word = Str.ofString "look") = false := by cases k <;> decide +kernel
theorem pop_pos {n : Nat} (h : n ≠ 0) : pop n ≠ 0 := by have := pop_pred n (by omega); omega
theorem or_ne {x z : Nat} (h : x ≠ 0 ∨ z ≠ 0) : x ||| z ≠ 0 := by
  intro e
  have h1 := Nat.or_eq_zero_iff.1 e
  rcases h with h | h
  · exact h h1.1
  · exact h h1.2
theorem at4b (m : Nat) (a b c d : Nat) : ∃ x : Nat, atI [V.int (a : Int), .int (b : Int), .int (c : Int), .int (d : Int)] ((m : Int) % 4) = some (.int (x : Int)) ∧ x ∈ [a, b, c, d] := by
  have h : m % 4 < 4 := Nat.mod_lt _ (by decide)
  have e : ((m : Int) % 4) = ((m % 4 : Nat) : Int) := by omega
  rw [e]
  generalize m % 4 = r at h ⊢
  match r, h with
  | 0, _ => exact ⟨a, rfl, by simp⟩
  | 1, _ => exact ⟨b, rfl, by simp⟩
  | 2, _ => exact ⟨c, rfl, by simp⟩
  | 3, _ => exact ⟨d, rfl, by simp⟩
def k5 : Nat → DK
  | 0 => .over | 1 => .quarter | 2 => .back | 3 => .both | _ => .both
theorem k5_n (m : Nat) : (k5 m).n = 1 := by
  match m with
  | 0 => rfl
  | 1 => rfl
  | 2 => rfl
  | 3 => rfl
  | _ + 4 => rfl
theorem at_k5 {m : Nat} (h : m < 5) : atI [V.str "over", .str "quarter", .str "back", .str "both", .str "both"] (m : Int) = some (.str (k5 m).word) := by
  match m, h with
  | 0, _ => rfl
  | 1, _ => rfl
  | 2, _ => rfl
  | 3, _ => rfl
  | 4, _ => rfl
def k4 : Nat → DK
  | 3 => .swap | _ => .wher
theorem k4_n (m : Nat) : (k4 m).n = 2 := by
  match m with
  | 0 => rfl
  | 1 => rfl
  | 2 => rfl
  | 3 => rfl
  | _ + 4 => rfl
theorem at_k4 {m : Nat} (h : m < 4) : atI [V.str "where", .str "where", .str "where", .str "swap"] (m : Int) = some (.str (k4 m).word) := by
  match m, h with
  | 0, _ => rfl
  | 1, _ => rfl
  | 2, _ => rfl
  | 3, _ => rfl
theorem ne_mod {n j t : Nat} (hj : j < n) (h1 : 1 ≤ t) (h2 : t < n) : (j + t) % n ≠ j := by
  rcases Nat.lt_or_ge (j + t) n with h | h
  · rw [Nat.mod_eq_of_lt h]
    omega
  · rw [Nat.mod_eq_sub_mod h, Nat.mod_eq_of_lt (by omega)]
    omega
theorem ne_modI {n j i : Nat} {r : Int} (hj : j < n) (h0 : 0 ≤ r) (h2 : r < (n : Int) - 1) (e : ((j : Int) + 1 + r) % (n : Int) = (i : Int)) : j ≠ i := by
  obtain ⟨t, rfl⟩ : ∃ t : Nat, r = (t : Int) := ⟨r.toNat, by omega⟩
  have e2 : ((j + (1 + t)) % n : Nat) = i := by
    have e3 : (j : Int) + 1 + (t : Int) = ((j + (1 + t) : Nat) : Int) := by push_cast; omega
    rw [e3, ← Int.natCast_emod] at e
    exact Int.ofNat_inj.mp e
  intro z
  exact ne_mod hj (by omega) (by omega) (e2.trans z.symm)
theorem at_first (x : V) (xs : List V) : atI (x :: xs) 0 = some x := atI_nat (j := 0) rfl
theorem ok_look (x z : Nat) : ([V.str "look", .int (x : Int), .int (z : Int)] : List V).all okV = true := by
  have h : PyData.strOk ("look" : Str) = true := by decide +kernel
  simp [okV, h]
theorem sa_ft {H : Hp} {a : Addr} {s : Sx} (h : Sa H a s) : Ft H a s.V := by
  refine ⟨h, ?_⟩
  cases s with
  | deed d => exact words_ok _ _
  | look x z => exact ok_look x z
theorem all_ft {H : Hp} : ∀ {as : List Addr} {ss : List Sx}, All2 (Sa H) as ss → All2 (Ft H) as (ss.map Sx.V)
  | _, _, .nil => .nil
  | _, _, .cons h t => .cons (sa_ft h) (all_ft t)
theorem st_neS {K : PySem.W.Frag} {H : Hp} {Q : VK} {a b : Addr} {as bs : List Addr} {ss : List Sx} (ha : SqL K H a (refs as)) (hb : SqL K H b (refs bs)) (h1 : All2 (Sa H) as ss) (h2 : All2 (Sa H) bs ss) (q : Q (.bl false) H) : rNeD K (.ref a) (.ref b) H Q :=
  ⟨_, _, .lst ha (dvs_ft (all_ft h1)), .lst hb (dvs_ft (all_ft h2)), shaped_ft (all_ft h1), shaped_ft (all_ft h2), by rw [PyData.eqv, eqv_ft (all_ft h1)]; exact q⟩
section
variable {P : Program} {w : World} {K : PySem.W.Frag} {mg : Str → Option Value} {base : Heap} {C_WireError C_NoDeed C_NoWire C_NoText A_WIRES_BEHIND : Addr} {CD_D : DK → Addr}
theorem all_figs {l : List Nat} : (l.map fun c => decide (c ∈ [48, 49, 50, 51, 52, 53, 54, 55, 56, 57])).all id = true ↔ NumText.AllDigits l := by
  rw [List.all_map, List.all_eq_true]
  refine forall_congr' fun c => forall_congr' fun hc => ?_
  show decide (c ∈ [48, 49, 50, 51, 52, 53, 54, 55, 56, 57]) = true ↔ 48 ≤ c ∧ c ≤ 57
  rw [decide_eq_true_iff]
  simp only [List.mem_cons, List.not_mem_nil, or_false]
  omega
theorem nd_of_int : ∀ {l : List Nat}, (l.map fun x : Nat => (x : Int)).Nodup → l.Nodup
  | [], _ => List.nodup_nil
  | x :: l, h => by
    rw [List.map_cons, List.nodup_cons] at h
    exact List.nodup_cons.2 ⟨fun z => h.1 (List.mem_map.2 ⟨x, z, rfl⟩), nd_of_int h.2⟩
/-- what the law's reader makes of a part -/
def Ro (n : Nat) (H : Hp) (p : List Nat) (v : V) : Prop := (v = .non ∧ ¬ ∃ s, Rd n p s) ∨ ∃ s a, v = .ref a ∧ Rd n p s ∧ Sa H a s
theorem Ro.same {n : Nat} {H H' : Hp} {p : List Nat} {v : V} (h : Ro n H p v) (s : Same H H') : Ro n H' p v := by
  rcases h with h | ⟨t, a, r, hr, ha⟩
  · exact .inl h
  · exact .inr ⟨t, a, r, hr, s _ _ ha⟩
theorem Ro.ft {n : Nat} {H : Hp} : ∀ {ps : List (List Nat)} {ys : List V}, All2 (Ro n H) ps ys → ∀ {v : V}, v ∈ ys → v = .non ∨ ∃ a zs, v = .ref a ∧ Ft H a zs
  | _, _, .nil, _, hv => by cases hv
  | _, _, .cons h t, v, hv => by
    rcases List.mem_cons.1 hv with rfl | hv
    · rcases h with ⟨rfl, _⟩ | ⟨s, a, rfl, _, ha⟩
      · exact .inl rfl
      · exact .inr ⟨a, _, rfl, sa_ft ha⟩
    · exact Ro.ft t hv
theorem Ro.none {n : Nat} {H : Hp} : ∀ {ps : List (List Nat)} {ys : List V}, All2 (Ro n H) ps ys → V.non ∈ ys → ∀ {ss : List Sx}, ¬ All2 (Rd n) ps ss
  | _, _, .nil, hv, _ => by cases hv
  | _, _, .cons h t, hv, ss => fun hss => by
    cases hss with
    | cons r rs =>
      rcases List.mem_cons.1 hv with e | hv
      · rcases h with ⟨_, no⟩ | ⟨s, a, e2, _⟩
        · exact no ⟨_, r⟩
        · rw [e2] at e
          cases e
      · exact Ro.none t hv rs
theorem Ro.all {n : Nat} {H : Hp} : ∀ {ps : List (List Nat)} {ys : List V}, All2 (Ro n H) ps ys → V.non ∉ ys → ∃ as ss, ys = refs as ∧ All2 (Rd n) ps ss ∧ All2 (Sa H) as ss
  | _, _, .nil, _ => ⟨[], [], rfl, .nil, .nil⟩
  | _, _, .cons h t, hv => by
    obtain ⟨as, ss, rfl, h1, h2⟩ := Ro.all t fun z => hv (List.mem_cons_of_mem _ z)
    rcases h with ⟨rfl, _⟩ | ⟨s, a, rfl, r, ha⟩
    · exact (hv List.mem_cons_self).elim
    · exact ⟨a :: as, s :: ss, rfl, .cons r h1, .cons ha h2⟩
theorem st_inTf {K : PySem.W.Frag} {H : Hp} {Q : VK} {a : Addr} {xs : List V} {x : V} (s : SqT K H a xs) (hx : flatV x = true) (hs : xs.all flatV = true) (q : ∀ b : Bool, inV x xs = b → Q (.bl b) H) : rIn K false x (.ref a) H Q := ⟨a, xs, rfl, .inr s, hx, hs, q _ rfl⟩
theorem st_inLf {K : PySem.W.Frag} {H : Hp} {Q : VK} {a : Addr} {xs : List V} {x : V} (s : SqL K H a xs) (hx : flatV x = true) (hs : xs.all flatV = true) (q : ∀ b : Bool, inV x xs = b → Q (.bl b) H) : rIn K false x (.ref a) H Q := ⟨a, xs, rfl, .inl s, hx, hs, q _ rfl⟩
/-- a number of the law's reader -/
def Nu (n : Nat) (l : List Nat) (v : V) : Prop := (∃ k : Nat, k < n ∧ l = dec (k : Int) ∧ v = .int (k : Int)) ∨ (v = .non ∧ ¬ ∃ k : Nat, k < n ∧ l = dec (k : Int))
theorem Nu.flat {n : Nat} : ∀ {ws : List (List Nat)} {ys : List V}, All2 (Nu n) ws ys → ys.all flatV = true
  | _, _, .nil => rfl
  | _, _, .cons h t => by
    rw [List.all_cons, Nu.flat t, Bool.and_true]
    rcases h with ⟨k, _, _, rfl⟩ | ⟨rfl, _⟩ <;> rfl
theorem Nu.no {n : Nat} {w : List Nat} : ∀ {ws : List (List Nat)} {ys : List V}, All2 (Nu n) ws ys → inV .non ys = true → ws = (w.map fun i : Nat => dec (i : Int)) → ¬ ∀ i ∈ w, i < n
  | ws, ys, e, hi, ew => fun hw => by
    have : ∀ {ws : List (List Nat)} {ys : List V}, All2 (Nu n) ws ys → (∀ l ∈ ws, ∃ k : Nat, k < n ∧ l = dec (k : Int)) → inV .non ys = false := by
      intro ws ys e
      induction e with
      | nil => exact fun _ => rfl
      | cons h t ih =>
        intro hh
        have ht := ih fun l hl => hh l (List.mem_cons_of_mem _ hl)
        unfold inV at ht ⊢
        rw [List.any_cons, ht, Bool.or_false]
        rcases h with ⟨k, _, _, rfl⟩ | ⟨rfl, no⟩
        · rfl
        · exact (no (hh _ List.mem_cons_self)).elim
    rw [this e fun l hl => by
      rw [ew] at hl
      obtain ⟨i, hi, rfl⟩ := List.mem_map.1 hl
      exact ⟨i, hw i hi, rfl⟩] at hi
    cases hi
theorem Nu.all {n : Nat} : ∀ {ws : List (List Nat)} {ys : List V}, All2 (Nu n) ws ys → inV .non ys = false → ∃ ks : List Nat, ys = vn ks ∧ ws = (ks.map fun i : Nat => dec (i : Int)) ∧ ∀ k ∈ ks, k < n
  | _, _, .nil, _ => ⟨[], rfl, rfl, fun _ z => (nomatch z)⟩
  | _, _, .cons h t, hi => by
    unfold inV at hi
    rw [List.any_cons, Bool.or_eq_false_iff] at hi
    obtain ⟨ks, rfl, rfl, hk⟩ := Nu.all t hi.2
    rcases h with ⟨k, hk1, rfl, rfl⟩ | ⟨rfl, _⟩
    · refine ⟨k :: ks, rfl, rfl, fun j hj => ?_⟩
      rcases List.mem_cons.1 hj with rfl | hj
      · exact hk1
      · exact hk j hj
    · cases hi.1
theorem eq_word {w : List Nat} (k : DK) : eqV (.str k.word) (T w) = true ↔ wdL k = w := by
  show (k.word == ⟨w.toArray⟩) = true ↔ _
  rw [beq_iff_eq]
  constructor
  · intro h
    unfold wdL
    rw [h]
  · rintro rfl
    exact str_T k.word
theorem in_one (w : List Nat) : inV (T w) [.str "over", .str "quarter", .str "back", .str "both"] = true ↔ ∃ k : DK, k.n = 1 ∧ wdL k = w := by
  have e : inV (T w) [.str "over", .str "quarter", .str "back", .str "both"] = ([DK.over, .quarter, .back, .both].any fun k => eqV (.str k.word) (T w)) := rfl
  rw [e, List.any_eq_true]
  constructor
  · rintro ⟨k, hk, h⟩
    refine ⟨k, ?_, (eq_word k).1 h⟩
    simp only [List.mem_cons, List.not_mem_nil, or_false] at hk
    rcases hk with rfl | rfl | rfl | rfl <;> rfl
  · rintro ⟨k, hk, h⟩
    refine ⟨k, ?_, (eq_word k).2 h⟩
    cases k <;> first | (simp; done) | (exact absurd hk (by decide))
theorem in_two (w : List Nat) : inV (T w) [.str "where", .str "swap"] = true ↔ ∃ k : DK, k.n = 2 ∧ wdL k = w := by
  have e : inV (T w) [.str "where", .str "swap"] = ([DK.wher, .swap].any fun k => eqV (.str k.word) (T w)) := rfl
  rw [e, List.any_eq_true]
  constructor
  · rintro ⟨k, hk, h⟩
    refine ⟨k, ?_, (eq_word k).1 h⟩
    simp only [List.mem_cons, List.not_mem_nil, or_false] at hk
    rcases hk with rfl | rfl <;> rfl
  · rintro ⟨k, hk, h⟩
    refine ⟨k, ?_, (eq_word k).2 h⟩
    cases k <;> first | (simp; done) | (exact absurd hk (by decide))
theorem signs_zero (n : Nat) : signs 0 0 n = List.replicate n 46 := by
  refine List.ext_getElem? fun k => ?_
  by_cases hk : k < n
  · rw [signs_get hk, List.getElem?_replicate, if_pos hk, Nat.zero_testBit]
    rfl
  · rw [List.getElem?_eq_none (by rw [signs_len]; omega), List.getElem?_eq_none (by rw [List.length_replicate]; omega)]
theorem ok_texts {l : List Nat} (h : ∀ c ∈ l, c < 128) : (l.map fun c => T [c]).all okV = true := by
  rw [List.all_map, List.all_eq_true]
  intro c hc
  exact ok_asc (l := [c]) fun d hd => by rw [List.mem_singleton.1 hd]; exact h c hc
theorem get_getD {m : List Nat} {i : Nat} (h : i < m.length) : m[i]? = some (m.getD i 0) := by
  rw [List.getD_eq_getElem?_getD, List.getElem?_eq_getElem h]
  rfl
/-- the sum of 2^k over the signs of m that stand in S -/
def bsum (m S : List Nat) : Nat → Nat
  | 0 => 0
  | i + 1 => bsum m S i + if m.getD i 0 ∈ S then 2 ^ i else 0
theorem bsum_lt (m S : List Nat) : ∀ i, bsum m S i < 2 ^ i
  | 0 => Nat.one_pos
  | i + 1 => by
    have := bsum_lt m S i
    unfold bsum
    rw [Nat.pow_succ]
    split <;> omega
theorem bsum_bit (m S : List Nat) : ∀ {i k : Nat}, k < i → (bsum m S i).testBit k = decide (m.getD k 0 ∈ S)
  | i + 1, k, h => by
    have hlt := bsum_lt m S i
    unfold bsum
    by_cases hin : m.getD i 0 ∈ S
    · rw [if_pos hin, Nat.add_comm]
      rcases Nat.lt_or_ge k i with hk | hk
      · rw [Nat.testBit_two_pow_add_gt hk, bsum_bit m S hk]
      · obtain rfl : k = i := by omega
        rw [Nat.testBit_two_pow_add_eq, Nat.testBit_lt_two_pow hlt, decide_eq_true hin]
        rfl
    · rw [if_neg hin, Nat.add_zero]
      rcases Nat.lt_or_ge k i with hk | hk
      · exact bsum_bit m S hk
      · obtain rfl : k = i := by omega
        rw [Nat.testBit_lt_two_pow hlt, decide_eq_false hin]
theorem bsum_signs {m : List Nat} {n : Nat} (hn : m.length = n) (h : ∀ c ∈ m, c ∈ [46, 120, 121, 122]) : signs (bsum m [120, 121] n) (bsum m [122, 121] n) n = m := by
  refine List.ext_getElem? fun k => ?_
  by_cases hk : k < n
  · rw [signs_get hk, bsum_bit m _ hk, bsum_bit m _ hk, get_getD (m := m) (by omega)]
    have hm : m.getD k 0 ∈ m := List.mem_of_getElem? (get_getD (m := m) (by omega))
    have := h _ hm
    generalize m.getD k 0 = c at this
    simp only [List.mem_cons, List.not_mem_nil, or_false] at this
    rcases this with rfl | rfl | rfl | rfl <;> rfl
  · rw [List.getElem?_eq_none (by rw [signs_len]; omega), List.getElem?_eq_none (by omega)]
theorem st_ixAny {K : PySem.W.Frag} {H : Hp} {Q : VK} {a : Addr} {m : Nat} {xs : List V} {R : V → Hp → Prop} (s : SqL K H a xs) (h0 : 0 < xs.length) (hr : ∀ v ∈ xs, R v H) (q : ∀ v, R v H → Q v H) : rIxL K (.ref a) (.int ((m : Int) % (xs.length : Int))) H Q := by
  obtain ⟨k, e, h⟩ := emod_nat (m : Int) (n := xs.length) h0
  rw [show (m : Int) % (xs.length : Int) = (k : Int) from e]
  exact st_ixL s (atI_nat (List.getElem?_eq_getElem h)) (q _ (hr _ (List.getElem_mem h)))
theorem isN {b : Bool} {P : Bool → Prop} {v : V} (h : decide (v = V.non) = b) (p : P b) : V.non = V.non ∧ ∃ k, V.bl (decide (v = V.non)) = V.bl k ∧ P k := ⟨rfl, b, by rw [h], p⟩
theorem isNn {b : Bool} {P : Bool → Prop} {v : V} (h : (!decide (v = V.non)) = b) (p : P b) : V.non = V.non ∧ ∃ k, V.bl (!decide (v = V.non)) = V.bl k ∧ P k := ⟨rfl, b, by rw [h], p⟩
theorem nn_t : decide (V.non = V.non) = true := decide_eq_true rfl
theorem nn_f (p : Addr) : decide (V.ref p = V.non) = false := decide_eq_false fun z => by cases z
/-- a text of at most b plain signs -/
def Ac (b : Nat) (l : List Nat) : Prop := l.length ≤ b ∧ ∀ c ∈ l, c < 128
theorem Ac.app {a b : Nat} {l k : List Nat} (h : Ac a l) (h2 : Ac b k) : Ac (a + b) (l ++ k) := by
  refine ⟨by rw [List.length_append]; have := h.1; have := h2.1; omega, fun c hc => ?_⟩
  rcases List.mem_append.1 hc with z | z
  · exact h.2 c z
  · exact h2.2 c z
theorem Ac.cut {b : Nat} {l : List Nat} (h : Ac b l) (lo hi : Option Int) : Ac b (cutN l lo hi) := by
  refine ⟨Nat.le_trans (cut_len l lo hi) h.1, fun c hc => h.2 c ?_⟩
  unfold cutN at hc
  exact List.mem_of_mem_drop (List.mem_of_mem_take hc)
theorem ac_dec : ∀ {k : Nat}, k ≤ 40 → Ac 2 (dec (k : Int)) := by
  intro k hk
  have : ∀ k : Nat, k < 41 → (dec (k : Int)).length ≤ 2 ∧ ∀ c ∈ dec (k : Int), c < 128 := by decide +kernel
  exact this k (by omega)
theorem ac_rep {n c : Nat} (h : n ≤ 40) (hc : c < 128) : Ac 40 (List.replicate n c) := ⟨by rw [List.length_replicate]; exact h, fun d hd => by rw [(List.mem_replicate.1 hd).2]; exact hc⟩
theorem Ac.tx {b : Nat} {l : List Nat} (h : Ac b l) (hb : b ≤ 890) : Tx l := ⟨Nat.le_trans h.1 hb, h.2⟩
theorem ws_asc {n : Nat} {s : Sx} (ok : s.Ok n) (hn : n ≤ 40) : ∀ l ∈ s.ws n, ∀ c ∈ l, c < 128 := by
  intro l hl c hc
  cases s with
  | deed d =>
    rcases List.mem_cons.1 hl with rfl | hl
    · revert hc
      have : ∀ k : DK, ∀ c ∈ wdL k, c < 128 := fun k => by cases k <;> decide +kernel
      exact this d.k c
    · obtain ⟨i, hi, rfl⟩ := List.mem_map.1 hl
      have hi2 : i < n := Dd.Ok.lt ok i hi
      have := (dec_rd i (by omega)).1.2.2.1 c hc
      omega
  | look x z =>
    rcases List.mem_cons.1 hl with rfl | hl
    · revert hc
      simp only [List.mem_cons, List.not_mem_nil, or_false]
      omega
    · rw [List.mem_singleton.1 hl] at hc
      exact (signs_mem hc).2
theorem tx_asc {n : Nat} {s : Sx} (ok : s.Ok n) (hn : n ≤ 40) : ∀ c ∈ s.tx n, c < 128 := fun c hc => by
  rcases inter_mem hc with h | ⟨l, hl, h⟩
  · revert h
    simp only [List.mem_cons, List.not_mem_nil, or_false]
    omega
  · exact ws_asc ok hn l hl c h
theorem ok_is_whole_number {f : Addr} {fd : FuncData} (F : Fun K "is_whole_number" "is_whole_number" s_is_whole_number f fd) (b_isinstance : mg "isinstance" = none) (b_int : mg "int" = none) (b_bool : mg "bool" = none) : FnOk P w K mg base CX0 1 f fd ["thing"] (sp_is_whole_number K) := by
  refine F.ok sc_is_whole_number (fun vs H Q E h => ?_) (fun cdv A outer s H vs Q E hr h => ?_)
  · obtain ⟨_, _, rfl, _⟩ := h
    rfl
  obtain ⟨v, b, rfl, ⟨t, b1, b2, ty, e1, e2, rfl⟩, q⟩ := h
  refine ⟨_, (pss_one (ps_ret (pe_and (pe_isB rfl b_isinstance (pv 0) b_int boot_int) (pe_one (pe_not (pe_isB rfl b_isinstance (pv 0) b_bool boot_bool)))))), ?_⟩
  fail "st"
  fail "go"
  refine st_isi ty e1 ?_
  cases b1 with
  | false =>
    fail "go"
    exact q
  | true =>
    fail "go"
    refine st_isi ty e2 ?_
    fail "go"
    exact q
theorem ok_Deed___init__ {f : Addr} {fd : FuncData} (F : Fun K "__init__" "Deed.__init__" s_Deed___init__ f fd) (T_D : Txt_D K CD_D) : FnOk P w K mg base CX0 1 f fd ["self", "word", "undoer", "at"] (sp_Deed___init__ K CD_D) := by
  refine F.ok sc_Deed___init__ (fun vs H Q E h => ?_) (fun cdv A outer s H vs Q E hr h => ?_)
  · obtain ⟨_, _, _, _, rfl, _⟩ := h
    rfl
  obtain ⟨p, w, u, t, rfl, k, dx, hp, q⟩ := h
  refine ⟨_, (pss_cons (ps_fld (pv 0) (pv 1) rfl)
      (pss_cons (ps_fld (pv 0) (pv 2) rfl)
      (pss_one (ps_fld (pv 0) (pv 3) rfl)))), ?_⟩
  fail "st"
  fail "go"
  refine st_put1 hp (T_D.cl k) (T_D.n_word k) (by decide) ?_
  fail "go"
  refine st_put1 upd_same (T_D.cl k) (T_D.n_undoer k) (Nat.lt_of_le_of_lt (length_putF _ _ _) (by decide)) ?_
  fail "go"
  refine st_put1 upd_same (T_D.cl k) (T_D.n_at k) (Nat.lt_of_le_of_lt (length_putF _ _ _) (Nat.lt_of_le_of_lt (Nat.succ_le_succ (length_putF _ _ _)) (by decide))) ?_
  rw [upd_upd, upd_upd, flds_put]
  exact q
theorem ok_Over___init__ {f : Addr} {fd : FuncData} (F : Fun K "__init__" "Over.__init__" s_Over___init__ f fd) (cm_Deed___init__ : CCal P w K mg base CX0 1 "Deed" "__init__" ["self", "word", "undoer", "at"] (sp_Deed___init__ K CD_D)) : FnOk P w K mg base CX0 2 f fd ["self", "k"] (sp_Over___init__ K CD_D) := by
  refine F.ok sc_Over___init__ (fun vs H Q E h => ?_) (fun cdv A outer s H vs Q E hr h => ?_)
  · obtain ⟨_, _, rfl, _⟩ := h
    rfl
  obtain ⟨p, j, rfl, dx, hp, q⟩ := h
  refine ⟨_, (pss_one (ps_expr (pe_cm cm_Deed___init__ hr pass0 (pa_cons (pv 0) (pa_cons pe_str (pa_cons pe_str (pa_cons (pe_tup (pa_cons (pv 1) pa_nil)) pa_nil))))))), ?_⟩
  fail "go"
  rename_i t ht
  refine ⟨p, _, _, t, rfl, .over, dx, ?_, q t ht⟩
  rw [upd_ne (ne_of_none hp ht)]
  exact hp
theorem ok_Quarter___init__ {f : Addr} {fd : FuncData} (F : Fun K "__init__" "Quarter.__init__" s_Quarter___init__ f fd) (cm_Deed___init__ : CCal P w K mg base CX0 1 "Deed" "__init__" ["self", "word", "undoer", "at"] (sp_Deed___init__ K CD_D)) : FnOk P w K mg base CX0 2 f fd ["self", "k"] (sp_Quarter___init__ K CD_D) := by
  refine F.ok sc_Quarter___init__ (fun vs H Q E h => ?_) (fun cdv A outer s H vs Q E hr h => ?_)
  · obtain ⟨_, _, rfl, _⟩ := h
    rfl
  obtain ⟨p, j, rfl, dx, hp, q⟩ := h
  refine ⟨_, (pss_one (ps_expr (pe_cm cm_Deed___init__ hr pass0 (pa_cons (pv 0) (pa_cons pe_str (pa_cons pe_str (pa_cons (pe_tup (pa_cons (pv 1) pa_nil)) pa_nil))))))), ?_⟩
  fail "go"
  rename_i t ht
  refine ⟨p, _, _, t, rfl, .quarter, dx, ?_, q t ht⟩
  rw [upd_ne (ne_of_none hp ht)]
  exact hp
theorem ok_Back___init__ {f : Addr} {fd : FuncData} (F : Fun K "__init__" "Back.__init__" s_Back___init__ f fd) (cm_Deed___init__ : CCal P w K mg base CX0 1 "Deed" "__init__" ["self", "word", "undoer", "at"] (sp_Deed___init__ K CD_D)) : FnOk P w K mg base CX0 2 f fd ["self", "k"] (sp_Back___init__ K CD_D) := by
  refine F.ok sc_Back___init__ (fun vs H Q E h => ?_) (fun cdv A outer s H vs Q E hr h => ?_)
  · obtain ⟨_, _, rfl, _⟩ := h
    rfl
  obtain ⟨p, j, rfl, dx, hp, q⟩ := h
  refine ⟨_, (pss_one (ps_expr (pe_cm cm_Deed___init__ hr pass0 (pa_cons (pv 0) (pa_cons pe_str (pa_cons pe_str (pa_cons (pe_tup (pa_cons (pv 1) pa_nil)) pa_nil))))))), ?_⟩
  fail "go"
  rename_i t ht
  refine ⟨p, _, _, t, rfl, .back, dx, ?_, q t ht⟩
  rw [upd_ne (ne_of_none hp ht)]
  exact hp
theorem ok_Both___init__ {f : Addr} {fd : FuncData} (F : Fun K "__init__" "Both.__init__" s_Both___init__ f fd) (cm_Deed___init__ : CCal P w K mg base CX0 1 "Deed" "__init__" ["self", "word", "undoer", "at"] (sp_Deed___init__ K CD_D)) : FnOk P w K mg base CX0 2 f fd ["self", "k"] (sp_Both___init__ K CD_D) := by
  refine F.ok sc_Both___init__ (fun vs H Q E h => ?_) (fun cdv A outer s H vs Q E hr h => ?_)
  · obtain ⟨_, _, rfl, _⟩ := h
    rfl
  obtain ⟨p, j, rfl, dx, hp, q⟩ := h
  refine ⟨_, (pss_one (ps_expr (pe_cm cm_Deed___init__ hr pass0 (pa_cons (pv 0) (pa_cons pe_str (pa_cons pe_str (pa_cons (pe_tup (pa_cons (pv 1) pa_nil)) pa_nil))))))), ?_⟩
  fail "go"
  rename_i t ht
  refine ⟨p, _, _, t, rfl, .both, dx, ?_, q t ht⟩
  rw [upd_ne (ne_of_none hp ht)]
  exact hp
theorem ok_Where___init__ {f : Addr} {fd : FuncData} (F : Fun K "__init__" "Where.__init__" s_Where___init__ f fd) (cm_Deed___init__ : CCal P w K mg base CX0 1 "Deed" "__init__" ["self", "word", "undoer", "at"] (sp_Deed___init__ K CD_D)) : FnOk P w K mg base CX0 2 f fd ["self", "j", "k"] (sp_Where___init__ K CD_D) := by
  refine F.ok sc_Where___init__ (fun vs H Q E h => ?_) (fun cdv A outer s H vs Q E hr h => ?_)
  · obtain ⟨_, _, _, rfl, _⟩ := h
    rfl
  obtain ⟨p, j, i, rfl, dx, hp, q⟩ := h
  refine ⟨_, (pss_one (ps_expr (pe_cm cm_Deed___init__ hr pass0 (pa_cons (pv 0) (pa_cons pe_str (pa_cons pe_str (pa_cons (pe_tup (pa_cons (pv 1) (pa_cons (pv 2) pa_nil))) pa_nil))))))), ?_⟩
  fail "go"
  rename_i t ht
  refine ⟨p, _, _, t, rfl, .wher, dx, ?_, q t ht⟩
  rw [upd_ne (ne_of_none hp ht)]
  exact hp
theorem ok_Swap___init__ {f : Addr} {fd : FuncData} (F : Fun K "__init__" "Swap.__init__" s_Swap___init__ f fd) (cm_Deed___init__ : CCal P w K mg base CX0 1 "Deed" "__init__" ["self", "word", "undoer", "at"] (sp_Deed___init__ K CD_D)) : FnOk P w K mg base CX0 2 f fd ["self", "j", "k"] (sp_Swap___init__ K CD_D) := by
  refine F.ok sc_Swap___init__ (fun vs H Q E h => ?_) (fun cdv A outer s H vs Q E hr h => ?_)
  · obtain ⟨_, _, _, rfl, _⟩ := h
    rfl
  obtain ⟨p, j, i, rfl, dx, hp, q⟩ := h
  refine ⟨_, (pss_one (ps_expr (pe_cm cm_Deed___init__ hr pass0 (pa_cons (pv 0) (pa_cons pe_str (pa_cons pe_str (pa_cons (pe_tup (pa_cons (pv 1) (pa_cons (pv 2) pa_nil))) pa_nil))))))), ?_⟩
  fail "go"
  rename_i t ht
  refine ⟨p, _, _, t, rfl, .swap, dx, ?_, q t ht⟩
  rw [upd_ne (ne_of_none hp ht)]
  exact hp
theorem ok_Deed_wires {f : Addr} {fd : FuncData} (F : Fun K "wires" "Deed.wires" s_Deed_wires f fd) (T_D : Txt_D K CD_D) (b_list : mg "list" = none) : FnOk P w K mg base CX0 1 f fd ["self"] (sp_Deed_wires K CD_D) := by
  refine F.ok sc_Deed_wires (fun vs H Q E h => ?_) (fun cdv A outer s H vs Q E hr h => ?_)
  · obtain ⟨_, _, rfl, _⟩ := h
    rfl
  obtain ⟨a, d, rfl, ⟨dx, t, ha, ht, hl⟩, q⟩ := h
  refine ⟨_, (pss_one (ps_ret (pe_callTy (call_listQ) rfl b_list boot_list (pa_cons (pe_fld (pv 0) rfl) pa_nil)))), ?_⟩
  have ht' : SqT K H t (vn d.w) := SqT.of ht
  fail "st"
  fail "go"
  refine st_fld1 ha (T_D.cl _) (T_D.n_at _) (flds_at _ _) ?_
  fail "go"
  exact q _ (by assumption)
theorem ok_check_words {f : Addr} {fd : FuncData} (F : Fun K "check_words" "check_words" s_check_words f fd) (c_NoDeed : ExcC K mg "NoDeed" C_NoDeed) (g_WIRES_BEHIND : GTab K mg "WIRES_BEHIND" A_WIRES_BEHIND [("over", 1), ("quarter", 1), ("back", 1), ("both", 1), ("where", 2), ("swap", 2)]) (b_len : mg "len" = none) (b_all : mg "all" = none) (b_isinstance : mg "isinstance" = none) (b_tuple : mg "tuple" = none) (b_str : mg "str" = none) (c_is_whole_number : Cal P w K mg base CX0 1 "is_whole_number" ["thing"] (sp_is_whole_number K)) : FnOk P w K mg base (CXE P w) 2 f fd ["words"] (sp_check_words K C_NoDeed) := by
  refine F.okE sc_check_words (fun vs H Q E h => ?_) (fun cdv A outer s H vs Q E hr h => ?_)
  · obtain ⟨_, rfl, _⟩ := h
    rfl
  obtain ⟨v, rfl, hq⟩ := h
  refine ⟨_, (pss_cons (ps_if (PW.pt (pw_or (pt_not (pt_val (pe_isB rfl b_isinstance (pv 0) b_tuple boot_tuple))) (pw_or1 (pt_cmpR (op_eq) (pe_callB (call_lenQ) rfl b_len PySem.boot_len (pa_cons (pv 0) pa_nil)) pe_int (nomark _))))) (pss_one (ps_raise c_NoDeed raisesE (pa_cons pe_str pa_nil) rfl)) pss_nil)
      (pss_cons (ps_if (PW.pt (pw_or (pt_not (pt_val (pe_isB rfl b_isinstance (pe_ix (ix_tup) (pv 0) pe_int (fun _ _ => rfl)) b_str boot_str))) (pw_or1 (pt_cmpR (op_notInTab) (pe_ix (ix_tup) (pv 0) pe_int (fun _ _ => rfl)) (pe_gt g_WIRES_BEHIND) rfl)))) (pss_one (ps_raise c_NoDeed raisesE (pa_cons pe_str pa_nil) rfl)) pss_nil)
      (pss_cons (ps_set (i := 1) sc_check_words.nd rfl (Or.inl rfl) (pe_slice (sl_tup) (pv 0) (po_some pe_int) po_none))
      (pss_cons (ps_if (pt_cmpR (op_ne) (pe_callB (call_lenQ) rfl b_len PySem.boot_len (pa_cons (pv 1) pa_nil)) (pe_ix (ix_tab) (pe_gt g_WIRES_BEHIND) (pe_ix (ix_tup) (pv 0) pe_int (fun _ _ => rfl)) (fun _ _ => rfl)) (nomark _)) (pss_one (ps_raise c_NoDeed raisesE (pa_cons pe_str pa_nil) rfl)) pss_nil)
      (pss_cons (ps_if (pt_not (pt_val (pe_callB (call_allB rfl) rfl b_all boot_all (pa_cons (pe_comp (sc := defScope s_check_words) rfl ⟨rfl, by decide +kernel, rfl, by decide +kernel, by decide +kernel, by decide +kernel, by decide +kernel⟩ (by show ("k" : Str) ∉ (["words", "at"] : List Str); decide +kernel) (by show (".0" : Str) ∉ (["words", "at"] : List Str); decide +kernel) sc_check_words.nd rfl (pi_tup (pv 1)) (fun _ _ _ _ => pif_nil) (fun _ _ _ _ => (pe_fn c_is_whole_number hr pass0 (pa_cons (pv 0) pa_nil)))) pa_nil)))) (pss_one (ps_raise c_NoDeed raisesE (pa_cons pe_str pa_nil) rfl)) pss_nil)
      (pss_one (ps_if (PW.pt (pw_and (pt_cmpR (op_eq) (pe_callB (call_lenQ) rfl b_len PySem.boot_len (pa_cons (pv 1) pa_nil)) pe_int (nomark _)) (pw_and1 (pt_cmpR (op_eq) (pe_ix (ix_tup) (pv 1) pe_int (fun _ _ => rfl)) (pe_ix (ix_tup) (pv 1) pe_int (fun _ _ => rfl)) (nomark _))))) (pss_one (ps_raise c_NoDeed raisesE (pa_cons pe_str pa_nil) rfl)) pss_nil))))))), ?_⟩
  fail "st"
  fail "go"
  have tl : Tab K A_WIRES_BEHIND tabW := g_WIRES_BEHIND.2
  rcases hq with ⟨nw, hE⟩ | ⟨a, k, is, rfl, ⟨ha, hl, hn⟩, hQ⟩
  · cases nw with
    | kind ty kt =>
      refine st_isi ty kt ?_
      fail "go"
      exact ⟨by decide, hE H (Same.refl _)⟩
    | empty ha =>
      refine st_isi (TyOf.tup ha) kit_tuple_tuple ?_
      have ha' := SqT.of (K := K) ha
      fail "go"
      refine ite_t rfl ?_
      fail "go"
      exact ⟨by decide, hE H (Same.refl _)⟩
    | first ha f m =>
      refine st_isi (TyOf.tup ha) kit_tuple_tuple ?_
      have ha' := SqT.of (K := K) ha
      fail "go"
      refine ite_f (fun z => by first | (simp at z; done) | (simp at z; omega)) ?_
      fail "go"
      exact ⟨by decide, hE H (Same.refl _)⟩
    | word ha e fs f m =>
      refine st_isi (TyOf.tup ha) kit_tuple_tuple ?_
      have ha' := SqT.of (K := K) ha
      fail "go"
      refine ite_f (fun z => by first | (simp at z; done) | (simp at z; omega)) ?_
      fail "go"
      refine st_inTab tl ?_
      rw [e]
      fail "go"
      exact ⟨by decide, hE H (Same.refl _)⟩
    | @len a k xs ha l f m =>
      refine st_isi (TyOf.tup ha) kit_tuple_tuple ?_
      have ha' := SqT.of (K := K) ha
      fail "go"
      refine ite_f (fun z => by first | (simp at z; done) | (simp at z; omega)) ?_
      fail "go"
      refine st_inTab tl ?_
      rw [tab_word, show (true != (some (DK.n _ : Int)).isSome) = false from rfl]
      fail "go"
      refine st_tl ha' (fun p hp => ?_)
      have hp' : SqT K (upd H p (.tup xs)) p xs := SqT.of upd_same
      fail "go"
      refine st_ixTab tl (tab_word k) ?_
      fail "go"
      refine iteN (fun _ => ?_) (fun c => (l (by omega)).elim)
      fail "go"
      exact ⟨by decide, hE _ (same_new hp _)⟩
    | @part a k xs ha l f e =>
      refine st_isi (TyOf.tup ha) kit_tuple_tuple ?_
      have ha' := SqT.of (K := K) ha
      fail "go"
      refine ite_f (fun z => by first | (simp at z; done) | (simp at z; omega)) ?_
      fail "go"
      refine st_inTab tl ?_
      rw [tab_word, show (true != (some (DK.n _ : Int)).isSome) = false from rfl]
      fail "go"
      refine st_tl ha' (fun p hp => ?_)
      have hp' : SqT K (upd H p (.tup xs)) p xs := SqT.of upd_same
      fail "go"
      refine st_ixTab tl (tab_word k) ?_
      fail "go"
      refine iteN (fun c => (c (by omega)).elim) (fun _ => ?_)
      fail "go"
      refine st_comp_tup (fun P h => ⟨_, rfl, h⟩) hp' (fun i ys H' => H' = upd H p (.tup xs) ∧ ys = ((xs.take i).map wnB).map V.bl) (by have := k.n_pos; omega) ⟨rfl, rfl⟩ ?_ ?_ ?_ ?_
      · rintro i ys H' ⟨rfl, rfl⟩
        rw [List.length_map, List.length_map, List.length_take]
        omega
      · rintro i ys H' ⟨rfl, rfl⟩
        exact hp'
      · rintro i x ys H' hx ⟨rfl, rfl⟩
        fail "go"
        refine ⟨x, wnB x, rfl, WN.flat K _ (okV_flat (all_get f hx)), rfl, ?_⟩
        rw [take_succ_of hx, List.map_append, List.map_append]
        rfl
      · rintro ys H' ⟨rfl, rfl⟩ p2 hp2
        fail "go"
        refine st_all (bs := (xs.take xs.length).map wnB) (SqL.of upd_same) ?_
        rw [List.take_length, all_id_map, e]
        fail "go"
        exact ⟨by decide, hE _ ((same_new hp _).trans (same_new hp2 _))⟩
    | @same a k i ha e =>
      refine st_isi (TyOf.tup ha) kit_tuple_tuple ?_
      have ha' := SqT.of (K := K) ha
      fail "go"
      refine ite_f (fun z => by first | (simp at z; done) | (simp at z; omega)) ?_
      fail "go"
      refine st_inTab tl ?_
      rw [tab_word, show (true != (some (DK.n _ : Int)).isSome) = false from rfl]
      fail "go"
      refine st_tl ha' (fun p hp => ?_)
      have hp' : SqT K (upd H p (.tup [.int i, .int i])) p [.int i, .int i] := SqT.of upd_same
      fail "go"
      refine st_ixTab tl (tab_word k) ?_
      fail "go"
      refine iteN (fun c => (c (by rw [e]; rfl)).elim) (fun _ => ?_)
      fail "go"
      refine st_comp_tup (fun P h => ⟨_, rfl, h⟩) hp' (fun j ys H' => H' = upd H p (.tup [.int i, .int i]) ∧ ys = ([true, true].take j).map V.bl) (by show (2 : Nat) ≤ 1000; decide) ⟨rfl, rfl⟩ ?_ ?_ ?_ ?_
      · rintro j ys H' ⟨rfl, rfl⟩
        rw [List.length_map, List.length_take]
        omega
      · rintro j ys H' ⟨rfl, rfl⟩
        exact hp'
      · rintro j x ys H' hx ⟨rfl, rfl⟩
        fail "go"
        rcases j with _ | _ | j
        · cases hx
          exact ⟨_, true, rfl, WN.int _ _ _, rfl, rfl⟩
        · cases hx
          exact ⟨_, true, rfl, WN.int _ _ _, rfl, rfl⟩
        · simp at hx
      · rintro ys H' ⟨rfl, rfl⟩ p2 hp2
        fail "go"
        refine st_all (bs := [true, true]) (SqL.of upd_same) ?_
        rw [show [true, true].all id = true from rfl]
        have hp3 : SqT K (upd (upd H p (.tup [.int i, .int i])) p2 (.lst (List.map V.bl (List.take [V.int i, V.int i].length [true, true])))) p [.int i, .int i] := (same_new hp2 _).tup hp'
        fail "go"
        refine ite_t rfl ?_
        fail "go"
        refine ite_t rfl ?_
        fail "go"
        exact ⟨by decide, hE _ ((same_new hp _).trans (same_new hp2 _))⟩
  · refine st_isi (TyOf.tup ha) kit_tuple_tuple ?_
    have ha' := SqT.of (K := K) ha
    fail "go"
    refine ite_f (fun z => by first | (simp at z; done) | (simp at z; omega)) ?_
    fail "go"
    refine st_inTab tl ?_
    rw [tab_word, show (true != (some (DK.n _ : Int)).isSome) = false from rfl]
    fail "go"
    refine st_tl ha' (fun p hp => ?_)
    have hp' : SqT K (upd H p (.tup (is.map V.int))) p (is.map V.int) := SqT.of upd_same
    fail "go"
    refine st_ixTab tl (tab_word k) ?_
    fail "go"
    rw [List.length_map]
    refine iteN (fun c => (c (by omega)).elim) (fun _ => ?_)
    fail "go"
    refine st_comp_tup (fun P h => ⟨_, rfl, h⟩) hp' (fun j ys H' => H' = upd H p (.tup (is.map V.int)) ∧ ys = (List.replicate j true).map V.bl) (by rw [List.length_map]; have := k.n_pos; omega) ⟨rfl, rfl⟩ ?_ ?_ ?_ ?_
    · rintro j ys H' ⟨rfl, rfl⟩
      rw [List.length_map, List.length_replicate]
      omega
    · rintro j ys H' ⟨rfl, rfl⟩
      exact hp'
    · rintro j x ys H' hx ⟨rfl, rfl⟩
      fail "go"
      obtain ⟨i, rfl⟩ := int_get hx
      refine ⟨_, true, rfl, WN.int _ _ _, rfl, ?_⟩
      rw [List.replicate_succ', List.map_append]
      rfl
    · rintro ys H' ⟨rfl, rfl⟩ p2 hp2
      fail "go"
      refine st_all (bs := List.replicate (is.map V.int).length true) (SqL.of upd_same) ?_
      rw [all_replicate]
      have hS : Same H (upd (upd H p (.tup (is.map V.int))) p2 (.lst ((List.replicate (is.map V.int).length true).map V.bl))) := (same_new hp _).trans (same_new hp2 _)
      have hp3 : SqT K (upd (upd H p (.tup (is.map V.int))) p2 (.lst ((List.replicate (is.map V.int).length true).map V.bl))) p (is.map V.int) := (same_new hp2 _).tup hp'
      fail "go"
      refine iteD (fun c => ?_) (fun c => ?_)
      · rw [List.length_map] at c
        obtain ⟨i, j, rfl⟩ := len2 (is := is) (by omega)
        have hij : ¬ i = j := by
          intro z
          subst z
          simp at hn
        fail "go"
        refine ite_f hij ?_
        fail "go"
        exact hQ _ hS
      · fail "go"
        exact hQ _ hS
theorem ok_deed_of_words {f : Addr} {fd : FuncData} (F : Fun K "deed_of_words" "deed_of_words" s_deed_of_words f fd) (k_Swap : KCal P w K mg base CX0 2 "Swap" (CD_D .swap) ["self", "j", "k"] (sp_Swap___init__ K CD_D)) (T_D : Txt_D K CD_D) (k_Over : KCal P w K mg base CX0 2 "Over" (CD_D .over) ["self", "k"] (sp_Over___init__ K CD_D)) (k_Quarter : KCal P w K mg base CX0 2 "Quarter" (CD_D .quarter) ["self", "k"] (sp_Quarter___init__ K CD_D)) (k_Back : KCal P w K mg base CX0 2 "Back" (CD_D .back) ["self", "k"] (sp_Back___init__ K CD_D)) (k_Both : KCal P w K mg base CX0 2 "Both" (CD_D .both) ["self", "k"] (sp_Both___init__ K CD_D)) (k_Where : KCal P w K mg base CX0 2 "Where" (CD_D .wher) ["self", "j", "k"] (sp_Where___init__ K CD_D)) (c_check_words : Cal P w K mg base (CXE P w) 2 "check_words" ["words"] (sp_check_words K C_NoDeed)) (b_min : mg "min" = none) (c_NoWire : ExcC K mg "NoWire" C_NoWire) : FnOk P w K mg base (CXE P w) 4 f fd ["words"] (sp_deed_of_words K CD_D C_NoDeed C_NoWire) := by
  refine F.okE sc_deed_of_words (fun vs H Q E h => ?_) (fun cdv A outer s H vs Q E hr h => ?_)
  · obtain ⟨_, rfl, _⟩ := h
    rfl
  obtain ⟨v, rfl, hq⟩ := h
  refine ⟨_, (pss_cons (ps_expr (pe_fn c_check_words hr passE (pa_cons (pv 0) pa_nil)))
      (pss_cons (ps_if (pt_cmpR (op_lt) (pe_callB (call_minL rfl) rfl b_min boot_min (pa_cons (pe_slice (sl_tup) (pv 0) (po_some pe_int) po_none) pa_nil)) pe_int (nomark _)) (pss_one (ps_raise c_NoWire raisesE (pa_cons pe_str pa_nil) rfl)) pss_nil)
      (pss_cons (ps_set (i := 1) sc_deed_of_words.nd rfl (Or.inl rfl) (pe_ix (ix_tup) (pv 0) pe_int (fun _ _ => rfl)))
      (pss_cons (ps_if (pt_cmpR (op_eq) (pv 1) pe_str (nomark _)) (pss_one (ps_ret (pe_new k_Over hr pass0 (pa_cons (pe_ix (ix_tup) (pv 0) pe_int (fun _ _ => rfl)) pa_nil)))) pss_nil)
      (pss_cons (ps_if (pt_cmpR (op_eq) (pv 1) pe_str (nomark _)) (pss_one (ps_ret (pe_new k_Quarter hr pass0 (pa_cons (pe_ix (ix_tup) (pv 0) pe_int (fun _ _ => rfl)) pa_nil)))) pss_nil)
      (pss_cons (ps_if (pt_cmpR (op_eq) (pv 1) pe_str (nomark _)) (pss_one (ps_ret (pe_new k_Back hr pass0 (pa_cons (pe_ix (ix_tup) (pv 0) pe_int (fun _ _ => rfl)) pa_nil)))) pss_nil)
      (pss_cons (ps_if (pt_cmpR (op_eq) (pv 1) pe_str (nomark _)) (pss_one (ps_ret (pe_new k_Both hr pass0 (pa_cons (pe_ix (ix_tup) (pv 0) pe_int (fun _ _ => rfl)) pa_nil)))) pss_nil)
      (pss_cons (ps_if (pt_cmpR (op_eq) (pv 1) pe_str (nomark _)) (pss_one (ps_ret (pe_new k_Where hr pass0 (pa_cons (pe_ix (ix_tup) (pv 0) pe_int (fun _ _ => rfl)) (pa_cons (pe_ix (ix_tup) (pv 0) pe_int (fun _ _ => rfl)) pa_nil))))) pss_nil)
      (pss_one (ps_ret (pe_new k_Swap hr pass0 (pa_cons (pe_ix (ix_tup) (pv 0) pe_int (fun _ _ => rfl)) (pa_cons (pe_ix (ix_tup) (pv 0) pe_int (fun _ _ => rfl)) pa_nil))))))))))))), ?_⟩
  fail "st"
  fail "go"
  rcases hq with ⟨nw, hE⟩ | ⟨a, k, is, rfl, wd, hQ, hE⟩
  · exact ⟨v, rfl, .inl ⟨nw, hE⟩⟩
  · refine ⟨_, rfl, .inr ⟨a, k, is, rfl, wd, fun H1 hS1 => ?_⟩⟩
    obtain ⟨ha, hl, hn⟩ := wd
    have ha1 : SqT K H1 a (.str k.word :: is.map V.int) := SqT.of (hS1 _ _ ha)
    have hk0 := k.n_pos
    fail "go"
    refine st_tl ha1 (fun p hp => ?_)
    fail "go"
    refine st_bestT (ns := is) (SqT.of upd_same) (by omega) fun M hM hle => ?_
    have hS2 : Same H (upd H1 p (.tup (is.map V.int))) := hS1.trans (same_new hp _)
    have ha2 : SqT K (upd H1 p (.tup (is.map V.int))) a (.str k.word :: is.map V.int) := (same_new hp _).tup ha1
    fail "go"
    refine iteD (fun c => ?_) (fun c => ?_)
    · fail "go"
      exact ⟨by decide, hE (fun z => by have := z M hM; omega) _ hS2⟩
    · have hpos : ∀ i ∈ is, 0 ≤ i := fun i hi => by have := hle i hi; omega
      have hQ' := hQ hpos
      have fin1 : ∀ (x dx : Addr) (i : Int), is = [i] → (upd H1 p (.tup (is.map V.int))) x = none → (upd H1 p (.tup (is.map V.int))) dx = none → dx ≠ x →
          sp_init1 K CD_D k [.ref x, .int i] (upd (upd (upd H1 p (.tup (is.map V.int))) dx (.own x)) x (.ins (CD_D k) dx [])) (fun v H2 => v = .non ∧ Q (.ref x) H2) E0 := by
        intro x dx i hi hx hdx hne
        obtain ⟨j, rfl⟩ : ∃ j : Nat, i = (j : Int) := ⟨i.toNat, by have := hpos i (by rw [hi]; simp); omega⟩
        refine ⟨x, j, rfl, dx, upd_same, fun t ht => ⟨rfl, ?_⟩⟩
        refine hQ' x ⟨k, [j]⟩ _ (hS2.trans (same_init hx hdx ht)) ⟨dx, t, upd_same, ?_, by show 1 = k.n; rw [← hl, hi]; rfl⟩ rfl hi.symm
        rw [upd_ne (Ne.symm (ne_of_none upd_same ht)), upd_same]
      have fin2 : ∀ (x dx : Addr) (i i2 : Int), is = [i, i2] → (upd H1 p (.tup (is.map V.int))) x = none → (upd H1 p (.tup (is.map V.int))) dx = none → dx ≠ x →
          sp_init2 K CD_D k [.ref x, .int i, .int i2] (upd (upd (upd H1 p (.tup (is.map V.int))) dx (.own x)) x (.ins (CD_D k) dx [])) (fun v H2 => v = .non ∧ Q (.ref x) H2) E0 := by
        intro x dx i i2 hi hx hdx hne
        obtain ⟨j, rfl⟩ : ∃ j : Nat, i = (j : Int) := ⟨i.toNat, by have := hpos i (by rw [hi]; simp); omega⟩
        obtain ⟨j2, rfl⟩ : ∃ j : Nat, i2 = (j : Int) := ⟨i2.toNat, by have := hpos i2 (by rw [hi]; simp); omega⟩
        refine ⟨x, j, j2, rfl, dx, upd_same, fun t ht => ⟨rfl, ?_⟩⟩
        refine hQ' x ⟨k, [j, j2]⟩ _ (hS2.trans (same_init hx hdx ht)) ⟨dx, t, upd_same, ?_, by show 2 = k.n; rw [← hl, hi]; rfl⟩ rfl hi.symm
        rw [upd_ne (Ne.symm (ne_of_none upd_same ht)), upd_same]
      cases k with
      | over =>
        obtain ⟨i, rfl⟩ := len1 hl
        fail "kw"
        exact fun x dx hx hdx hne => fin1 x dx i rfl hx hdx hne
      | quarter =>
        obtain ⟨i, rfl⟩ := len1 hl
        fail "kw"
        exact fun x dx hx hdx hne => fin1 x dx i rfl hx hdx hne
      | back =>
        obtain ⟨i, rfl⟩ := len1 hl
        fail "kw"
        exact fun x dx hx hdx hne => fin1 x dx i rfl hx hdx hne
      | both =>
        obtain ⟨i, rfl⟩ := len1 hl
        fail "kw"
        exact fun x dx hx hdx hne => fin1 x dx i rfl hx hdx hne
      | wher =>
        obtain ⟨i, i2, rfl⟩ := len2 hl
        fail "kw"
        exact fun x dx hx hdx hne => fin2 x dx i i2 rfl hx hdx hne
      | swap =>
        obtain ⟨i, i2, rfl⟩ := len2 hl
        fail "kw"
        exact fun x dx hx hdx hne => fin2 x dx i i2 rfl hx hdx hne
theorem ok_deed_of {f : Addr} {fd : FuncData} (F : Fun K "deed_of" "deed_of" s_deed_of f fd) (m_D_wires : ∀ d : DK, MCal P w K mg base CX0 1 (CD_D d) "wires" ["self"] (sp_D_wires K CD_D d)) (c_deed_of_words : Cal P w K mg base (CXE P w) 4 "deed_of_words" ["words"] (sp_deed_of_words K CD_D C_NoDeed C_NoWire)) (b_max : mg "max" = none) (c_NoWire : ExcC K mg "NoWire" C_NoWire) : FnOk P w K mg base (CXE P w) 5 f fd ["words", "n"] (sp_deed_of K CD_D C_NoDeed C_NoWire) := by
  refine F.okE sc_deed_of (fun vs H Q E h => ?_) (fun cdv A outer s H vs Q E hr h => ?_)
  · obtain ⟨_, _, rfl, _⟩ := h
    rfl
  obtain ⟨v, n, rfl, hq⟩ := h
  refine ⟨_, (pss_cons (ps_set (i := 2) sc_deed_of.nd rfl (Or.inl rfl) (pe_fn c_deed_of_words hr passE (pa_cons (pv 0) pa_nil)))
      (pss_cons (ps_if (pt_cmpR (op_ge) (pe_callB (call_maxL rfl) rfl b_max boot_max (pa_cons (pe_md0 m_D_wires hr pass0 (pv 2)) pa_nil)) (pv 1) (nomark _)) (pss_one (ps_raise c_NoWire raisesE (pa_cons pe_str pa_nil) rfl)) pss_nil)
      (pss_one (ps_ret (pv 2))))), ?_⟩
  fail "st"
  fail "go"
  rcases hq with ⟨nw, hE⟩ | ⟨a, k, is, rfl, wd, hQ, hE⟩
  · exact ⟨v, rfl, .inl ⟨nw, hE⟩⟩
  · refine ⟨_, rfl, .inr ⟨a, k, is, rfl, wd, fun hpos p d H1 hS1 hd hdk hdw => ?_, fun hneg H1 hS1 => hE (fun z => hneg fun i hi => (z i hi).1) H1 hS1⟩⟩
    fail "go"
    obtain ⟨dx, t, hp, ht, hl⟩ := id hd
    refine st_md1 hp (flds_no _ _ (by decide +kernel) (by decide +kernel) (by decide +kernel)) ?_
    fail "go"
    refine ⟨p, d, rfl, hd, fun p2 hp2 => ?_⟩
    fail "go"
    have hk0 := d.k.n_pos
    refine st_bestL (ns := is) (by rw [← hdw, ← vn_ints]; exact SqL.of upd_same) (by rw [← hdw, List.length_map]; omega) fun M hM hle => ?_
    fail "go"
    refine iteD (fun c => ?_) (fun c => ?_)
    · fail "go"
      exact ⟨by decide, hE (fun z => by have := z M hM; omega) _ (hS1.trans (same_new hp2 _))⟩
    · fail "go"
      exact hQ (fun i hi => ⟨hpos i hi, by have := hle i hi; omega⟩) p d _ (hS1.trans (same_new hp2 _)) (hd.same (same_new hp2 _)) hdk hdw
theorem ok_bit_at {f : Addr} {fd : FuncData} (F : Fun K "bit_at" "bit_at" s_bit_at f fd)  : FnOk P w K mg base CX0 1 f fd ["number", "k"] (sp_bit_at K) := by
  refine F.ok sc_bit_at (fun vs H Q E h => ?_) (fun cdv A outer s H vs Q E hr h => ?_)
  · obtain ⟨_, _, rfl, _⟩ := h
    rfl
  obtain ⟨n, k, rfl, q⟩ := h
  refine ⟨_, (pss_one (ps_ret (pe_op (op_and) (pe_op (op_shr) (pv 0) (pv 1)) pe_int))), ?_⟩
  fail "go"
  exact q
theorem ok_sign_at {f : Addr} {fd : FuncData} (F : Fun K "sign_at" "sign_at" s_sign_at f fd) (g_SIGNS : GC mg "SIGNS" (.str ".xzy")) (c_bit_at : Cal P w K mg base CX0 1 "bit_at" ["number", "k"] (sp_bit_at K)) (g_XS : GC mg "XS" (.int 1)) (g_ZS : GC mg "ZS" (.int 2)) : FnOk P w K mg base CX0 2 f fd ["row", "k"] (sp_sign_at K) := by
  refine F.ok sc_sign_at (fun vs H Q E h => ?_) (fun cdv A outer s H vs Q E hr h => ?_)
  · obtain ⟨_, _, _, rfl, _⟩ := h
    rfl
  obtain ⟨a, k, r, rfl, ha, q⟩ := h
  refine ⟨_, (pss_one (ps_ret (pe_ix (ix_str) (pe_gc g_SIGNS) (pe_op (op_add) (pe_fn c_bit_at hr pass0 (pa_cons (pe_ix (ix_tup) (pv 0) (pe_gc g_XS) (fun _ _ => rfl)) (pa_cons (pv 1) pa_nil))) (pe_op (op_mul) pe_int (pe_fn c_bit_at hr pass0 (pa_cons (pe_ix (ix_tup) (pv 0) (pe_gc g_ZS) (fun _ _ => rfl)) (pa_cons (pv 1) pa_nil))))) (fun _ _ => rfl)))), ?_⟩
  fail "st"
  fail "lit"
  unfold Row.V at ha
  fail "go"
  refine ⟨r.x, k, rfl, ?_⟩
  fail "go"
  refine ⟨r.z, k, rfl, ?_⟩
  fail "go"
  refine st_ixS (c := sg _ _) (by decide) (at_sg _ _) ?_
  exact q
theorem ok_letters_of {f : Addr} {fd : FuncData} (F : Fun K "letters_of" "letters_of" s_letters_of f fd) (g_MINUS : GC mg "MINUS" (.int 0)) (c_sign_at : Cal P w K mg base CX0 2 "sign_at" ["row", "k"] (sp_sign_at K)) (b_range : mg "range" = none) : FnOk P w K mg base CX0 3 f fd ["row", "n"] (sp_letters_of K) := by
  refine F.ok sc_letters_of (fun vs H Q E h => ?_) (fun cdv A outer s H vs Q E hr h => ?_)
  · obtain ⟨_, _, _, rfl, _⟩ := h
    rfl
  obtain ⟨a, n, r, rfl, ha, hn, q⟩ := h
  refine ⟨_, (pss_cons (ps_set (i := 2) sc_letters_of.nd rfl (Or.inl rfl) (pe_ifExp (pt_cmpR (op_eq) (pe_ix (ix_tup) (pv 0) (pe_gc g_MINUS) (fun _ _ => rfl)) pe_int (nomark _)) pe_str pe_str))
      (pss_one (ps_ret (pe_op (op_addS) (pv 2) (pe_bm PySem.F.plainAttrs_str PySem.F.slot_str_join PySem.F.type_str_join mt_join pe_str (pa_cons (pe_comp (sc := defScope s_letters_of) rfl ⟨rfl, by decide +kernel, rfl, by decide +kernel, by decide +kernel, by decide +kernel, by decide +kernel⟩ (by show ("k" : Str) ∉ (["row", "n", "minus"] : List Str); decide +kernel) (by show (".0" : Str) ∉ (["row", "n", "minus"] : List Str); decide +kernel) sc_letters_of.nd rfl (pi_range1 rfl b_range (pa_cons (pv 1) pa_nil)) (fun _ _ _ _ => pif_nil) (fun _ _ _ _ => (pe_fn c_sign_at hr pass0 (pa_cons (pv 1) (pa_cons (pv 0) pa_nil))))) pa_nil)))))), ?_⟩
  fail "st"
  fail "lit"
  have ha' := ha
  unfold Row.V at ha'
  have fin : ∀ (m : Nat) (p : Addr) H', m = minus r.m → Same H H' → Q (T ([m] ++ signs r.x r.z n)) H' := fun m p H' e hS => by rw [e]; exact q _ hS
  fail "go"
  refine iteD (fun c => ?_) (fun c => ?_)
  all_goals
    fail "go"
    refine st_comp_range (n := n) (by omega) (fun P h => ⟨_, rfl, h⟩) (fun i ys H2 => ys = (signs r.x r.z i).map (fun c => T [c]) ∧ H2 = H) ⟨rfl, rfl⟩ ?_ ?_ ?_
    · rintro i ys H2 ⟨rfl, rfl⟩
      rw [List.length_map, signs_len]
      omega
    · rintro i ys H2 hi ⟨rfl, rfl⟩
      fail "go"
      refine ⟨a, i, r, rfl, ha, ?_, rfl⟩
      rw [signs_succ, List.map_append]
      rfl
    · rintro ys H2 ⟨rfl, rfl⟩ p hp
      fail "go"
      refine st_joinS (cs := signs r.x r.z n) (SqL.of upd_same) (by rw [signs_len]; omega) ?_
      refine st_addS (by rw [signs_len]; show 1 + n ≤ 1000; omega) ?_
      refine fin _ p _ ?_ (same_new hp _)
      unfold minus
      first | rw [if_pos (by omega)] | rw [if_neg (by omega)]
theorem ok_row_of {f : Addr} {fd : FuncData} (F : Fun K "row_of" "row_of" s_row_of f fd) (b_enumerate : mg "enumerate" = none) (b_isinstance : mg "isinstance" = none) (b_str : mg "str" = none) (c_NoText : ExcC K mg "NoText" C_NoText) (b_len : mg "len" = none) (g_MOST_WIRES : GC mg "MOST_WIRES" (.int 40)) (g_SIGNS : GC mg "SIGNS" (.str ".xzy")) : FnOk P w K mg base (CXE P w) 1 f fd ["text"] (sp_row_of K C_NoText) := by
  refine F.okE sc_row_of (fun vs H Q E h => ?_) (fun cdv A outer s H vs Q E hr h => ?_)
  · obtain ⟨_, rfl, _⟩ := h
    rfl
  obtain ⟨v, rfl, hq⟩ := h
  refine ⟨_, (pss_cons (ps_if (pt_not (pt_val (pe_isB rfl b_isinstance (pv 0) b_str boot_str))) (pss_one (ps_raise c_NoText raisesE (pa_cons pe_str pa_nil) rfl)) pss_nil)
      (pss_cons (ps_if (PW.pt (pw_or (pt_cmpR (op_lt) (pe_callB (call_lenQ) rfl b_len PySem.boot_len (pa_cons (pv 0) pa_nil)) pe_int (nomark _)) (pw_or1 (pt_cmpR (op_gt) (pe_callB (call_lenQ) rfl b_len PySem.boot_len (pa_cons (pv 0) pa_nil)) (pe_op (op_add) pe_int (pe_gc g_MOST_WIRES)) (nomark _))))) (pss_one (ps_raise c_NoText raisesE (pa_cons pe_str pa_nil) rfl)) pss_nil)
      (pss_cons (ps_if (PW.pt (pw_and (pt_cmpR (op_ne) (pe_ix (ix_str) (pv 0) pe_int (fun _ _ => rfl)) pe_str (nomark _)) (pw_and1 (pt_cmpR (op_ne) (pe_ix (ix_str) (pv 0) pe_int (fun _ _ => rfl)) pe_str (nomark _))))) (pss_one (ps_raise c_NoText raisesE (pa_cons pe_str pa_nil) rfl)) pss_nil)
      (pss_cons (ps_set (i := 1) sc_row_of.nd rfl (Or.inl rfl) pe_int)
      (pss_cons (ps_set (i := 2) sc_row_of.nd rfl (Or.inl rfl) pe_int)
      (pss_cons (ps_for PassesOwn.leaving rfl (pi_enumS rfl b_enumerate (pa_cons (pe_slice (sl_str) (pv 0) (po_some pe_int) po_none) pa_nil)) (pg_tup rfl (pgs_cons (pg_name (i := 3) sc_row_of.nd rfl (Or.inl rfl)) (pgs_cons (pg_name (i := 4) sc_row_of.nd rfl (Or.inl rfl)) pgs_nil))) (pss_cons (ps_set (i := 5) sc_row_of.nd rfl (Or.inl rfl) (pe_bm PySem.F.plainAttrs_str PySem.F.slot_str_find PySem.F.type_str_find mt_find (pe_gc g_SIGNS) (pa_cons (pv 4) pa_nil)))
      (pss_cons (ps_if (pt_cmpR (op_lt) (pv 5) pe_int (nomark _)) (pss_one (ps_raise c_NoText raisesE (pa_cons pe_str pa_nil) rfl)) pss_nil)
      (pss_cons (ps_set (i := 1) sc_row_of.nd rfl (Or.inl rfl) (pe_op (op_or) (pv 1) (pe_op (op_shl) (pe_op (op_and) (pv 5) pe_int) (pv 3))))
      (pss_one (ps_set (i := 2) sc_row_of.nd rfl (Or.inl rfl) (pe_op (op_or) (pv 2) (pe_op (op_shl) (pe_op (op_shr) (pv 5) pe_int) (pv 3)))))))))
      (pss_one (ps_ret (pe_tup (pa_cons (pe_ifExp (pt_cmpR (op_eq) (pe_ix (ix_str) (pv 0) pe_int (fun _ _ => rfl)) pe_str (nomark _)) pe_int pe_int) (pa_cons (pv 1) (pa_cons (pv 2) pa_nil)))))))))))), ?_⟩
  fail "st"
  fail "lit"
  fail "go"
  rcases text_cases hq with ⟨t, ty, kt, hE⟩ | ⟨l, rfl, hl, hQ, hE⟩
  · refine st_isi ty kt ?_
    fail "go"
    exact ⟨by decide, hE H (Same.refl _)⟩
  · refine st_isi (TyOf.str _) kit_str_str ?_
    fail "go"
    refine iteD (fun c => ?_) (fun c => ?_)
    · fail "go"
      exact ⟨by decide, hE (fun g => by have := g.1; omega) H (Same.refl _)⟩
    fail "go"
    refine iteD (fun c2 => ?_) (fun c2 => ?_)
    · fail "go"
      exact ⟨by decide, hE (fun g => by have := g.2.1; omega) H (Same.refl _)⟩
    obtain ⟨s, ss, rfl⟩ : ∃ s ss, l = s :: ss := by
      cases l with
      | nil => exact (c (by decide)).elim
      | cons s ss => exact ⟨s, ss, rfl⟩
    have hlen : ss.length ≤ 40 := by rw [List.length_cons] at c2; omega
    have hpos : 1 ≤ ss.length := by rw [List.length_cons] at c; omega
    have one_eq : ∀ a b : Nat, (⟨[a].toArray⟩ : Str) = ⟨[b].toArray⟩ → a = b := fun a b h => by
      have := congrArg (fun z : Str => z.cps.toList) h
      simpa using this
    by_cases hs : s = 43 ∨ s = 45
    case neg =>
      have n1 : ¬ (⟨[s].toArray⟩ : Str) = ⟨[43].toArray⟩ := fun h => hs (.inl (one_eq _ _ h))
      have n2 : ¬ (⟨[s].toArray⟩ : Str) = ⟨[45].toArray⟩ := fun h => hs (.inr (one_eq _ _ h))
      fail "go"
      rw [decide_eq_false n1]
      fail "go"
      rw [decide_eq_false n2]
      fail "go"
      refine ⟨by decide, hE (fun g => hs ?_) H (Same.refl _)⟩
      rcases g.2.2.1 with e | e
      · exact .inl (Option.some.inj e)
      · exact .inr (Option.some.inj e)
    case pos =>
      have n1 : ¬ (⟨[45].toArray⟩ : Str) = ⟨[43].toArray⟩ := fun h => absurd (one_eq _ _ h) (by decide)
      have n2 : ¬ (⟨[43].toArray⟩ : Str) = ⟨[45].toArray⟩ := fun h => absurd (one_eq _ _ h) (by decide)
      obtain ⟨m, hm, hmm⟩ : ∃ m, minus m = s ∧ m ≤ 1 := by
        rcases hs with rfl | rfl
        · exact ⟨0, rfl, by decide⟩
        · exact ⟨1, rfl, by decide⟩
      have main : ∀ (xs zs : Nat) p H', Same H H' → xs < 2 ^ ss.length → zs < 2 ^ ss.length → signs xs zs ss.length = ss.take ss.length → H' p = some (.tup [.int m, .int xs, .int zs]) → Q (.ref p) H' := fun xs zs p H' hS hx hz hw hp => by
        rw [List.take_length] at hw
        have e : (s :: ss).length - 1 = ss.length := rfl
        refine hQ ⟨by rw [List.length_cons]; omega, by rw [List.length_cons]; omega, ?_, fun c hc => ?_⟩ ⟨m, xs, zs⟩ p H' hS hp (by rw [e]; exact ⟨hmm, hx, hz⟩) ?_
        · rcases hs with rfl | rfl
          · exact .inl rfl
          · exact .inr rfl
        · have : c ∈ ss := hc
          rw [← hw] at this
          exact (signs_mem this).1
        · rw [e]
          unfold word
          rw [hw, hm]
      have bad : ∀ c, c ∈ ss → ¬ c ∈ [46, 120, 122, 121] → ¬ Good (s :: ss) := fun c hc hn g => hn (g.2.2.2 c hc)
      fail "go"
      rcases hs with rfl | rfl
      · rw [decide_eq_true rfl]
        fail "go"
        refine st_for_enumS (l := ss) (fun P h => ?_) (fun i σ H' => ∃ (k u w' : Option V) (xs zs : Nat), σ = [some (T (43 :: ss)), some (.int xs), some (.int zs), k, u, w'] ∧ Same H H' ∧ xs < 2 ^ i ∧ zs < 2 ^ i ∧ signs xs zs i = ss.take i) ⟨_, _, _, 0, 0, rfl, Same.refl _, by decide, by decide, rfl⟩ ?_ ?_
        · fail "go"
          rw [cut_from1]
          exact h
        · rintro i c' σ H' p hc ⟨k, u, w', xs, zs, rfl, hS, hx, hz, hw⟩ hp
          have hi : i < ss.length := (List.getElem?_eq_some_iff.mp hc).1
          fail "go"
          rcases find_one [46, 120, 122, 121] c' with ⟨e, hn⟩ | ⟨j, e, hj⟩
          · rw [e]
            fail "go"
            refine iteD (fun _ => ?_) (fun c9 => (c9 (by decide)).elim)
            fail "go"
            exact ⟨by decide, hE (bad c' (List.mem_of_getElem? hc) hn) _ (hS.trans (same_new hp _))⟩
          · rw [e]
            obtain ⟨hj4, hj'⟩ := find_sign hj
            fail "go"
            refine iteD (fun c9 => by omega) (fun _ => ?_)
            fail "go"
            refine ⟨_, _, _, _, _, rfl, hS.trans (same_new hp _), (put_bit _ hx).1, (put_bit _ hz).1, ?_⟩
            rw [signs_put _ _ hx hz, hw, take_succ_get hc, hj']
        · rintro σ H' ⟨k, u, w', xs, zs, rfl, hS, hx, hz, hw⟩
          fail "go"
          rw [decide_eq_false n2]
          fail "go"
          rename_i p hp
          have em : m = 0 := by
            unfold minus at hm
            by_cases e : m = 1
            · rw [if_pos e] at hm; cases hm
            · omega
          subst em
          exact main xs zs p _ (hS.trans (same_new hp _)) hx hz hw upd_same
      · rw [decide_eq_false n1]
        fail "go"
        rw [decide_eq_true rfl]
        fail "go"
        refine st_for_enumS (l := ss) (fun P h => ?_) (fun i σ H' => ∃ (k u w' : Option V) (xs zs : Nat), σ = [some (T (45 :: ss)), some (.int xs), some (.int zs), k, u, w'] ∧ Same H H' ∧ xs < 2 ^ i ∧ zs < 2 ^ i ∧ signs xs zs i = ss.take i) ⟨_, _, _, 0, 0, rfl, Same.refl _, by decide, by decide, rfl⟩ ?_ ?_
        · fail "go"
          rw [cut_from1]
          exact h
        · rintro i c' σ H' p hc ⟨k, u, w', xs, zs, rfl, hS, hx, hz, hw⟩ hp
          have hi : i < ss.length := (List.getElem?_eq_some_iff.mp hc).1
          fail "go"
          rcases find_one [46, 120, 122, 121] c' with ⟨e, hn⟩ | ⟨j, e, hj⟩
          · rw [e]
            fail "go"
            refine iteD (fun _ => ?_) (fun c9 => (c9 (by decide)).elim)
            fail "go"
            exact ⟨by decide, hE (bad c' (List.mem_of_getElem? hc) hn) _ (hS.trans (same_new hp _))⟩
          · rw [e]
            obtain ⟨hj4, hj'⟩ := find_sign hj
            fail "go"
            refine iteD (fun c9 => by omega) (fun _ => ?_)
            fail "go"
            refine ⟨_, _, _, _, _, rfl, hS.trans (same_new hp _), (put_bit _ hx).1, (put_bit _ hz).1, ?_⟩
            rw [signs_put _ _ hx hz, hw, take_succ_get hc, hj']
        · rintro σ H' ⟨k, u, w', xs, zs, rfl, hS, hx, hz, hw⟩
          fail "go"
          rw [decide_eq_true rfl]
          fail "go"
          rename_i p hp
          have em : m = 1 := by
            unfold minus at hm
            by_cases e : m = 1
            · exact e
            · rw [if_neg e] at hm; cases hm
          subst em
          exact main xs zs p _ (hS.trans (same_new hp _)) hx hz hw upd_same
theorem ok_ones {f : Addr} {fd : FuncData} (F : Fun K "ones" "ones" s_ones f fd)  : FnOk P w K mg base CX0 1 f fd ["number"] (sp_ones K) := by
  refine F.ok sc_ones (fun vs H Q E h => ?_) (fun cdv A outer s H vs Q E hr h => ?_)
  · obtain ⟨_, rfl, _⟩ := h
    rfl
  obtain ⟨n, rfl, q⟩ := h
  refine ⟨_, (pss_cons (ps_set (i := 1) sc_ones.nd rfl (Or.inl rfl) pe_int)
      (pss_cons (ps_set (i := 2) sc_ones.nd rfl (Or.inl rfl) (pv 0))
      (pss_cons (ps_while PassesOwn.never (pt_cmpR (op_gt) (pv 2) pe_int (nomark _)) (pss_cons (ps_set (i := 2) sc_ones.nd rfl (Or.inl rfl) (pe_op (op_and) (pv 2) (pe_op (op_sub) (pv 2) pe_int)))
      (pss_one (ps_set (i := 1) sc_ones.nd rfl (Or.inl rfl) (pe_op (op_add) (pv 1) pe_int)))))
      (pss_one (ps_ret (pv 1)))))), ?_⟩
  fail "go"
  refine ⟨fun m σ H' => ∃ k r : Nat, σ = [some (.int n), some (.int k), some (.int r)] ∧ H' = H ∧ m = r ∧ k + pop r = pop n, ⟨n, 0, n, rfl, rfl, rfl, by omega⟩, ?_⟩
  rintro m σ H' ⟨k, r, rfl, rfl, rfl, e⟩
  fail "go"
  refine iteD (fun c => ?_) (fun c => ?_)
  · have c' : 0 < m := by omega
    refine ⟨fun σ' H1 => ∃ k r : Nat, σ' = [some (.int n), some (.int k), some (.int r)] ∧ H1 = H' ∧ r < m ∧ k + pop r = pop n, fun σ' H1 ⟨k, r, e1, e2, e3, e4⟩ => ⟨r, e3, k, r, e1, e2, rfl, e4⟩, ?_⟩
    fail "go"
    rw [bitAnd_pred c']
    have := pop_pred m c'
    exact ⟨k + 1, m &&& (m - 1), rfl, rfl, and_pred_lt c', by omega⟩
  · have c' : m = 0 := by omega
    subst c'
    rw [pop_zero, Nat.add_zero] at e
    subst e
    fail "go"
    exact q
theorem ok_weight_of {f : Addr} {fd : FuncData} (F : Fun K "weight_of" "weight_of" s_weight_of f fd) (c_ones : Cal P w K mg base CX0 1 "ones" ["number"] (sp_ones K)) (g_XS : GC mg "XS" (.int 1)) (g_ZS : GC mg "ZS" (.int 2)) : FnOk P w K mg base CX0 2 f fd ["row"] (sp_weight_of K) := by
  refine F.ok sc_weight_of (fun vs H Q E h => ?_) (fun cdv A outer s H vs Q E hr h => ?_)
  · obtain ⟨_, _, rfl, _⟩ := h
    rfl
  obtain ⟨a, r, rfl, ha, q⟩ := h
  refine ⟨_, (pss_one (ps_ret (pe_fn c_ones hr pass0 (pa_cons (pe_op (op_or) (pe_ix (ix_tup) (pv 0) (pe_gc g_XS) (fun _ _ => rfl)) (pe_ix (ix_tup) (pv 0) (pe_gc g_ZS) (fun _ _ => rfl))) pa_nil)))), ?_⟩
  fail "st"
  unfold Row.V at ha
  fail "go"
  exact ⟨_, rfl, q⟩
theorem ok__law_cell_at {f : Addr} {fd : FuncData} (F : Fun K "_law_cell_at" "_law_cell_at" s__law_cell_at f fd) (b_len : mg "len" = none) : FnOk P w K mg base CX0 1 f fd ["_law_script", "_law_k"] (sp__law_cell_at K) := by
  refine F.ok sc__law_cell_at (fun vs H Q E h => ?_) (fun cdv A outer s H vs Q E hr h => ?_)
  · obtain ⟨_, _, _, rfl, _⟩ := h
    rfl
  obtain ⟨a, k, ns, rfl, ha, q⟩ := h
  refine ⟨_, (pss_cons (ps_if (pt_cmpR (op_lt) (pv 1) (pe_callB (call_lenQ) rfl b_len PySem.boot_len (pa_cons (pv 0) pa_nil)) (nomark _)) (pss_one (ps_ret (pe_ix (ix_list) (pv 0) (pv 1) (fun _ _ => rfl)))) pss_nil)
      (pss_one (ps_ret pe_int))), ?_⟩
  fail "st"
  fail "go"
  refine iteD (fun c => ?_) (fun c => ?_)
  · rw [List.length_map] at c
    obtain ⟨x, ex⟩ := at_i (cs := ns) (i := k) (by omega)
    fail "go"
    exact q x
  · fail "go"
    exact q 0
theorem ok__law_mixed {f : Addr} {fd : FuncData} (F : Fun K "_law_mixed" "_law_mixed" s__law_mixed f fd)  : FnOk P w K mg base CX0 1 f fd ["_law_draw", "_law_k"] (sp__law_mixed K) := by
  refine F.ok sc__law_mixed (fun vs H Q E h => ?_) (fun cdv A outer s H vs Q E hr h => ?_)
  · obtain ⟨_, _, rfl, _⟩ := h
    rfl
  obtain ⟨c, k, rfl, hk, q⟩ := h
  refine ⟨_, (pss_cons (ps_set (i := 2) sc__law_mixed.nd rfl (Or.inl rfl) (pe_op (op_mod) (pe_op (op_mulW) (pe_op (op_add) (pe_op (op_add) (pe_op (op_mod) (pv 0) pe_int) (pe_op (op_mulW) pe_int (pv 1))) pe_int) pe_int) pe_int))
      (pss_one (ps_ret (pe_op (op_mod) (pe_op (op_mulW) (pv 2) (pe_op (op_add) (pe_op (op_fdivW) (pv 2) pe_int) pe_int)) pe_int)))), ?_⟩
  fail "go"
  refine st_i ⟨by omega, by omega⟩ ?_
  fail "go"
  refine st_i ⟨by omega, by omega⟩ ?_
  fail "go"
  refine st_i ⟨by omega, by omega⟩ ?_
  fail "go"
  have key : ∀ x : Int, Q (.int (x % 2147483629)) H := fun x => by
    obtain ⟨m, e, hm⟩ := emod_nat x (n := 2147483629) (by decide)
    have e2 : x % 2147483629 = (m : Int) := e
    rw [e2]
    exact q m hm
  first
  | exact key _
  | (rename_i m em hm; exact q m hm)
theorem ok__law_bits {f : Addr} {fd : FuncData} (F : Fun K "_law_bits" "_law_bits" s__law_bits f fd) (c__law_mixed : Cal P w K mg base CX0 1 "_law_mixed" ["_law_draw", "_law_k"] (sp__law_mixed K)) : FnOk P w K mg base CX0 2 f fd ["_law_draw", "_law_k", "_law_n"] (sp__law_bits K) := by
  refine F.ok sc__law_bits (fun vs H Q E h => ?_) (fun cdv A outer s H vs Q E hr h => ?_)
  · obtain ⟨_, _, _, rfl, _⟩ := h
    rfl
  obtain ⟨c, k, n, rfl, hk, hn, q⟩ := h
  refine ⟨_, (pss_cons (ps_set (i := 3) sc__law_bits.nd rfl (Or.inl rfl) (pe_op (op_add) (pe_op (op_mulW) (pe_fn c__law_mixed hr pass0 (pa_cons (pv 0) (pa_cons (pv 1) pa_nil))) pe_int) (pe_fn c__law_mixed hr pass0 (pa_cons (pv 0) (pa_cons (pe_op (op_add) (pv 1) pe_int) pa_nil)))))
      (pss_one (ps_ret (pe_op (op_mod) (pv 3) (pe_op (op_shl) pe_int (pv 2)))))), ?_⟩
  fail "go"
  refine ⟨c, k, rfl, by omega, fun m1 h1 => ?_⟩
  fail "go"
  refine st_i ⟨by omega, by omega⟩ ?_
  fail "go"
  refine ⟨c, k + 1, by push_cast; rfl, by omega, fun m2 h2 => ?_⟩
  fail "go"
  rename_i m em hm
  exact q m hm
theorem ok__law_signs {f : Addr} {fd : FuncData} (F : Fun K "_law_signs" "_law_signs" s__law_signs f fd) (c__law_bits : Cal P w K mg base CX0 2 "_law_bits" ["_law_draw", "_law_k", "_law_n"] (sp__law_bits K)) (c__law_mixed : Cal P w K mg base CX0 1 "_law_mixed" ["_law_draw", "_law_k"] (sp__law_mixed K)) : FnOk P w K mg base CX0 3 f fd ["_law_draw", "_law_n"] (sp__law_signs K) := by
  refine F.ok sc__law_signs (fun vs H Q E h => ?_) (fun cdv A outer s H vs Q E hr h => ?_)
  · obtain ⟨_, _, rfl, _⟩ := h
    rfl
  obtain ⟨c, n, rfl, h0, hn, q⟩ := h
  refine ⟨_, (pss_cons (ps_set (i := 2) sc__law_signs.nd rfl (Or.inl rfl) (pe_fn c__law_bits hr pass0 (pa_cons (pv 0) (pa_cons pe_int (pa_cons (pv 1) pa_nil)))))
      (pss_cons (ps_set (i := 3) sc__law_signs.nd rfl (Or.inl rfl) (pe_fn c__law_bits hr pass0 (pa_cons (pv 0) (pa_cons pe_int (pa_cons (pv 1) pa_nil)))))
      (pss_cons (ps_set (i := 4) sc__law_signs.nd rfl (Or.inl rfl) (pe_op (op_mod) (pe_fn c__law_mixed hr pass0 (pa_cons (pv 0) (pa_cons pe_int pa_nil))) pe_int))
      (pss_cons (ps_if (pt_cmpR (op_lt) (pv 4) pe_int (nomark _)) (pss_cons (ps_set (i := 5) sc__law_signs.nd rfl (Or.inl rfl) (pe_op (op_shl) pe_int (pe_op (op_mod) (pe_fn c__law_mixed hr pass0 (pa_cons (pv 0) (pa_cons pe_int pa_nil))) (pv 1))))
      (pss_cons (ps_set (i := 6) sc__law_signs.nd rfl (Or.inl rfl) (pe_op (op_shl) pe_int (pe_op (op_mod) (pe_fn c__law_mixed hr pass0 (pa_cons (pv 0) (pa_cons pe_int pa_nil))) (pv 1))))
      (pss_cons (ps_set (i := 2) sc__law_signs.nd rfl (Or.inl rfl) (pe_ix (ix_list) (pe_lst (pa_cons pe_int (pa_cons (pv 5) (pa_cons (pv 5) (pa_cons (pe_op (op_or) (pv 5) (pv 6)) pa_nil))))) (pe_op (op_mod) (pe_fn c__law_mixed hr pass0 (pa_cons (pv 0) (pa_cons pe_int pa_nil))) pe_int) (fun _ _ => rfl)))
      (pss_one (ps_set (i := 3) sc__law_signs.nd rfl (Or.inl rfl) (pe_ix (ix_list) (pe_lst (pa_cons (pv 5) (pa_cons pe_int (pa_cons (pv 5) (pa_cons (pv 6) pa_nil))))) (pe_op (op_mod) (pe_fn c__law_mixed hr pass0 (pa_cons (pv 0) (pa_cons pe_int pa_nil))) pe_int) (fun _ _ => rfl))))))) pss_nil)
      (pss_cons (ps_if (PW.pt (pw_and (pt_cmpR (op_eq) (pv 2) pe_int (nomark _)) (pw_and1 (pt_cmpR (op_eq) (pv 3) pe_int (nomark _))))) (pss_one (ps_set (i := 3) sc__law_signs.nd rfl (Or.inl rfl) pe_int)) pss_nil)
      (pss_one (ps_ret (pe_tup (pa_cons (pv 2) (pa_cons (pv 3) pa_nil)))))))))), ?_⟩
  fail "st"
  fail "go"
  refine ⟨c, 10, n, rfl, by omega, hn, fun xs hxs => ?_⟩
  fail "go"
  refine ⟨c, 12, n, rfl, by omega, hn, fun zs hzs => ?_⟩
  fail "go"
  refine ⟨c, 14, rfl, by omega, fun m1 h1 => ?_⟩
  fail "go"
  refine iteD (fun _ => ?_) (fun _ => ?_)
  · fail "go"
    refine ⟨c, 15, rfl, by omega, fun m2 h2 => ?_⟩
    fail "go"
    refine ⟨c, 16, rfl, by omega, fun m3 h3 => ?_⟩
    fail "go"
    rename_i t1 et1 ht1 t2 et2 ht2 l1 kl1
    refine ⟨c, 17, rfl, by omega, fun m4 h4 => ?_⟩
    fail "go"
    obtain ⟨x1, ex1, mx1⟩ := at4b m4 0 (2 ^ t1) (2 ^ t1) (2 ^ t1 ||| 2 ^ t2)
    have p1 : (2 : Nat) ^ t1 < 2 ^ n := Nat.pow_lt_pow_right (by decide) ht1
    have p2 : (2 : Nat) ^ t2 < 2 ^ n := Nat.pow_lt_pow_right (by decide) ht2
    have p0 := Nat.two_pow_pos n
    have lx1 : x1 < 2 ^ n := by
      simp only [List.mem_cons, List.not_mem_nil, or_false] at mx1
      rcases mx1 with rfl | rfl | rfl | rfl
      · exact p0
      · exact p1
      · exact p1
      · exact Nat.or_lt_two_pow p1 p2
    fail "go"
    rename_i l2 kl2
    refine ⟨c, 18, rfl, by omega, fun m5 h5 => ?_⟩
    fail "go"
    obtain ⟨x2, ex2, mx2⟩ := at4b m5 (2 ^ t1) 0 (2 ^ t1) (2 ^ t2)
    have lx2 : x2 < 2 ^ n := by
      simp only [List.mem_cons, List.not_mem_nil, or_false] at mx2
      rcases mx2 with rfl | rfl | rfl | rfl
      · exact p1
      · exact p0
      · exact p1
      · exact p2
    fail "go"
    refine iteD (fun c1 => ?_) (fun c1 => ?_)
    · fail "go"
      refine iteD (fun c2 => ?_) (fun c2 => ?_)
      · fail "go"
        rename_i p hp
        exact q p _ x1 1 (by fail "sm") upd_same ⟨lx1, Nat.one_lt_two_pow (by omega), .inr (by decide)⟩
      · fail "go"
        rename_i p hp
        exact q p _ x1 x2 (by fail "sm") upd_same ⟨lx1, lx2, by omega⟩
    · fail "go"
      rename_i p hp
      exact q p _ x1 x2 (by fail "sm") upd_same ⟨lx1, lx2, by omega⟩
  · have S0 := Same.refl H
    fail "go"
    refine iteD (fun c1 => ?_) (fun c1 => ?_)
    · fail "go"
      refine iteD (fun c2 => ?_) (fun c2 => ?_)
      · fail "go"
        rename_i p hp
        exact q p _ xs 1 (S0.trans (same_new hp _)) upd_same ⟨hxs, Nat.one_lt_two_pow (by omega), .inr (by decide)⟩
      · fail "go"
        rename_i p hp
        exact q p _ xs zs (S0.trans (same_new hp _)) upd_same ⟨hxs, hzs, by omega⟩
    · fail "go"
      rename_i p hp
      exact q p _ xs zs (S0.trans (same_new hp _)) upd_same ⟨hxs, hzs, by omega⟩
theorem ok_is_look {f : Addr} {fd : FuncData} (F : Fun K "is_look" "is_look" s_is_look f fd) (b_isinstance : mg "isinstance" = none) (b_tuple : mg "tuple" = none) (b_len : mg "len" = none) : FnOk P w K mg base CX0 1 f fd ["step"] (sp_is_look K) := by
  refine F.ok sc_is_look (fun vs H Q E h => ?_) (fun cdv A outer s H vs Q E hr h => ?_)
  · obtain ⟨_, _, _, rfl, _⟩ := h
    rfl
  obtain ⟨a, s, n, rfl, ha, ok, q⟩ := h
  refine ⟨_, (pss_one (ps_ret (pe_and (pe_isB rfl b_isinstance (pv 0) b_tuple boot_tuple) (pe_and (pe_cmpR (op_eq) (pe_callB (call_lenQ) rfl b_len PySem.boot_len (pa_cons (pv 0) pa_nil)) pe_int (nomark _)) (pe_one (pe_cmpR (op_eq) (pe_ix (ix_tup) (pv 0) pe_int (fun _ _ => rfl)) pe_str (nomark _))))))), ?_⟩
  fail "st"
  unfold Sa at ha
  cases s with
  | look x z =>
    have ha' : SqT K H a [.str (Str.ofString "look"), .int (x : Int), .int (z : Int)] := SqT.of ha
    fail "go"
    refine iteD (fun _ => ?_) (fun c => (c rfl).elim)
    fail "go"
    rw [decide_eq_true rfl]
    exact q
  | deed d =>
    obtain ⟨k, w⟩ := d
    have hl := Dd.Ok.len ok
    have hp := k.n_pos
    dsimp only at hl
    rcases Nat.lt_or_ge k.n 2 with h | h
    · obtain ⟨i, rfl⟩ := one_wire (w := w) (by omega)
      have ha' : SqT K H a [.str k.word, .int (i : Int)] := SqT.of ha
      fail "go"
      refine iteD (fun c => absurd c (by show ¬ ((2 : Nat) : Int) = 3; decide)) (fun _ => ?_)
      exact q
    · obtain ⟨i, j, rfl⟩ := two_wires (w := w) (by omega)
      have ha' : SqT K H a [.str k.word, .int (i : Int), .int (j : Int)] := SqT.of ha
      fail "go"
      refine iteD (fun _ => ?_) (fun c => (c rfl).elim)
      fail "go"
      rw [no_look k]
      exact q
theorem ok_look_row {f : Addr} {fd : FuncData} (F : Fun K "look_row" "look_row" s_look_row f fd)  : FnOk P w K mg base CX0 1 f fd ["look"] (sp_look_row K) := by
  refine F.ok sc_look_row (fun vs H Q E h => ?_) (fun cdv A outer s H vs Q E hr h => ?_)
  · obtain ⟨_, _, _, rfl, _⟩ := h
    rfl
  obtain ⟨a, x, z, rfl, ha, q⟩ := h
  refine ⟨_, (pss_one (ps_ret (pe_tup (pa_cons pe_int (pa_cons (pe_ix (ix_tup) (pv 0) pe_int (fun _ _ => rfl)) (pa_cons (pe_ix (ix_tup) (pv 0) pe_int (fun _ _ => rfl)) pa_nil)))))), ?_⟩
  fail "st"
  have ha' : SqT K H a [.str (Str.ofString "look"), .int (x : Int), .int (z : Int)] := SqT.of ha
  fail "go"
  rename_i p hp
  exact q p hp
theorem ok_show_step {f : Addr} {fd : FuncData} (F : Fun K "show_step" "show_step" s_show_step f fd) (c_is_look : Cal P w K mg base CX0 1 "is_look" ["step"] (sp_is_look K)) (b_str : mg "str" = none) (c_letters_of : Cal P w K mg base CX0 3 "letters_of" ["row", "n"] (sp_letters_of K)) (c_look_row : Cal P w K mg base CX0 1 "look_row" ["look"] (sp_look_row K)) : FnOk P w K mg base CX0 4 f fd ["step", "n"] (sp_show_step K) := by
  refine F.ok sc_show_step (fun vs H Q E h => ?_) (fun cdv A outer s H vs Q E hr h => ?_)
  · obtain ⟨_, _, _, rfl, _⟩ := h
    rfl
  obtain ⟨a, n, s, rfl, ha, ok, hn, q⟩ := h
  refine ⟨_, (pss_cons (ps_if (pt_val (pe_fn c_is_look hr pass0 (pa_cons (pv 0) pa_nil))) (pss_one (ps_ret (pe_op (op_addS) pe_str (pe_slice (sl_str) (pe_fn c_letters_of hr pass0 (pa_cons (pe_fn c_look_row hr pass0 (pa_cons (pv 0) pa_nil)) (pa_cons (pv 1) pa_nil))) (po_some pe_int) po_none)))) pss_nil)
      (pss_one (ps_ret (pe_bm PySem.F.plainAttrs_str PySem.F.slot_str_join PySem.F.type_str_join mt_joinG pe_str (pa_cons (pe_comp (sc := defScope s_show_step) rfl ⟨rfl, by decide +kernel, rfl, by decide +kernel, by decide +kernel, by decide +kernel, by decide +kernel⟩ (by show ("word" : Str) ∉ (["step", "n"] : List Str); decide +kernel) (by show (".0" : Str) ∉ (["step", "n"] : List Str); decide +kernel) sc_show_step.nd rfl (pi_tup (pv 0)) (fun _ _ _ _ => pif_nil) (fun _ _ _ _ => (pe_callTy (call_strX) rfl b_str boot_str (pa_cons (pv 0) pa_nil)))) pa_nil))))), ?_⟩
  fail "st"
  fail "lit"
  fail "go"
  refine ⟨a, s, n, rfl, ha, ok, ?_⟩
  cases s with
  | look x z =>
    refine ⟨true, rfl, ?_⟩
    rw [if_pos rfl]
    fail "go"
    refine ⟨a, x, z, rfl, ha, fun p hp => ?_⟩
    fail "go"
    refine ⟨p, n, ⟨0, x, z⟩, rfl, SqT.of upd_same, hn, fun H2 hS2 => ?_⟩
    have hwl : (word ⟨0, x, z⟩ n).length ≤ 41 := by unfold word; rw [List.length_cons, signs_len]; omega
    have hwl1 : (word ⟨0, x, z⟩ n).length ≤ 1000 := by omega
    have hcl := cut_len (word ⟨0, x, z⟩ n) (some 1) none
    fail "go"
    first
    | refine st_addS (by show 5 + (cutN (word ⟨0, x, z⟩ n) (some 1) none).length ≤ 1000; omega) ?_
    | skip
    rw [cut_from1]
    exact q _ ((same_new hp _).trans hS2)
  | deed d =>
    refine ⟨false, rfl, ?_⟩
    rw [if_neg Bool.false_ne_true]
    fail "go"
    obtain ⟨k, w⟩ := d
    unfold Sa at ha
    have ha' : SqT K H a (.str k.word :: vn w) := SqT.of ha
    have hl := Dd.Ok.len ok
    have hlt := Dd.Ok.lt ok
    have hkn := k.n_pos
    dsimp only at hl hlt
    refine st_comp_tup (fun P h => ⟨_, rfl, h⟩) ha' (fun i ys H' => H' = H ∧ ys = ((Sx.ws n (.deed ⟨k, w⟩)).take i).map T) (by rw [List.length_cons, vn_len]; omega) ⟨rfl, rfl⟩ ?_ ?_ ?_ ?_
    · rintro i ys H' ⟨_, rfl⟩
      rw [List.length_map, List.length_take]
      omega
    · rintro i ys H' ⟨rfl, _⟩
      exact ha'
    · rintro i x ys H' hx ⟨rfl, rfl⟩
      fail "go"
      rcases i with _ | i
      · obtain rfl : V.str k.word = x := Option.some.inj hx
        refine .inr ⟨_, rfl, rfl, ?_⟩
        rw [word_T]
        rfl
      · obtain ⟨j, rfl, hj⟩ := vn_at (show (vn w)[i]? = some x from hx)
        have hj2 := hlt j (List.mem_of_getElem? hj)
        refine .inl ⟨(j : Int), rfl, by omega, rfl, ?_⟩
        have e : (Sx.ws n (.deed ⟨k, w⟩))[i + 1]? = some (dec (j : Int)) := by
          show (w.map fun i : Nat => dec (i : Int))[i]? = _
          rw [List.getElem?_map, hj]
          rfl
        rw [take_succ_of e, List.map_append]
        rfl
    · rintro ys H' ⟨rfl, rfl⟩ p hp
      have e : (V.str k.word :: vn w).length = (Sx.ws n (.deed ⟨k, w⟩)).length := by
        show (vn w).length + 1 = (w.map fun i : Nat => dec (i : Int)).length + 1
        rw [vn_len, List.length_map]
      rw [e, List.take_length]
      fail "go"
      refine st_joinG (ls := Sx.ws n (.deed ⟨k, w⟩)) (SqL.of upd_same) (by decide) (by rw [← e, List.length_cons, vn_len]; omega) (fun l hl => ?_) ?_
      · have := (ws_free ok hn l hl).2.2
        omega
      · exact q _ (same_new hp _)
theorem ok_show_work {f : Addr} {fd : FuncData} (F : Fun K "show_work" "show_work" s_show_work f fd) (c_show_step : Cal P w K mg base CX0 4 "show_step" ["step", "n"] (sp_show_step K)) : FnOk P w K mg base CX0 5 f fd ["work", "n"] (sp_show_work K) := by
  refine F.ok sc_show_work (fun vs H Q E h => ?_) (fun cdv A outer s H vs Q E hr h => ?_)
  · obtain ⟨_, _, _, _, rfl, _⟩ := h
    rfl
  obtain ⟨l, n, as, ss, rfl, hl, hz, hn, hW, hok, q⟩ := h
  refine ⟨_, (pss_one (ps_ret (pe_bm PySem.F.plainAttrs_str PySem.F.slot_str_join PySem.F.type_str_join mt_joinG pe_str (pa_cons (pe_comp (sc := defScope s_show_work) rfl ⟨rfl, by decide +kernel, rfl, by decide +kernel, by decide +kernel, by decide +kernel, by decide +kernel⟩ (by show ("step" : Str) ∉ (["work", "n"] : List Str); decide +kernel) (by show (".0" : Str) ∉ (["work", "n"] : List Str); decide +kernel) sc_show_work.nd rfl (pi_list (pv 0)) (fun _ _ _ _ => pif_nil) (fun _ _ _ _ => (pe_fn c_show_step hr pass0 (pa_cons (pv 0) (pa_cons (pv 2) pa_nil))))) pa_nil)))), ?_⟩
  fail "st"
  fail "lit"
  fail "go"
  refine st_comp_lst (fun P h => ⟨_, rfl, h⟩) (SqL.of hl) (fun i ys H' => Same H H' ∧ ys = ((ss.take i).map (Sx.tx n)).map T) (by rw [refs_len]; omega) ⟨Same.refl _, rfl⟩ ?_ ?_ ?_ ?_
  · rintro i ys H' ⟨_, rfl⟩
    rw [List.length_map, List.length_map, List.length_take]
    omega
  · rintro i ys H' ⟨hS, _⟩
    exact SqL.of (hS _ _ hl)
  · rintro i x ys H' hx ⟨hS, rfl⟩
    obtain ⟨a, ha, rfl⟩ := refs_get hx
    obtain ⟨s, hs, hda⟩ := hW.get ha
    fail "go"
    refine ⟨a, n, s, rfl, hS _ _ hda, hok s (List.mem_of_getElem? hs), hn, fun H3 hS3 => ?_⟩
    refine ⟨hS.trans hS3, ?_⟩
    rw [take_succ_of hs, List.map_append, List.map_append]
    rfl
  · rintro ys H' ⟨hS, rfl⟩ p hp
    rw [refs_len, hW.len, List.take_length]
    fail "go"
    refine st_joinG (ls := ss.map (Sx.tx n)) (SqL.of upd_same) (by decide) (by rw [List.length_map, ← hW.len]; omega) (fun l hl => ?_) ?_
    · obtain ⟨s, hs, rfl⟩ := List.mem_map.1 hl
      have := (tx_len (hok s hs) hn).1
      omega
    · exact q _ (hS.trans (same_new hp _))
theorem ok__law_words {f : Addr} {fd : FuncData} (F : Fun K "_law_words" "_law_words" s__law_words f fd) (c__law_mixed : Cal P w K mg base CX0 1 "_law_mixed" ["_law_draw", "_law_k"] (sp__law_mixed K)) : FnOk P w K mg base CX0 2 f fd ["_law_draw", "_law_n"] (sp__law_words K) := by
  refine F.ok sc__law_words (fun vs H Q E h => ?_) (fun cdv A outer s H vs Q E hr h => ?_)
  · obtain ⟨_, _, rfl, _⟩ := h
    rfl
  obtain ⟨c, n, rfl, h0, hn, q⟩ := h
  refine ⟨_, (pss_cons (ps_set (i := 2) sc__law_words.nd rfl (Or.inl rfl) (pe_op (op_mod) (pe_fn c__law_mixed hr pass0 (pa_cons (pv 0) (pa_cons pe_int pa_nil))) pe_int))
      (pss_cons (ps_set (i := 3) sc__law_words.nd rfl (Or.inl rfl) (pe_op (op_mod) (pe_fn c__law_mixed hr pass0 (pa_cons (pv 0) (pa_cons pe_int pa_nil))) (pv 1)))
      (pss_cons (ps_if (PW.pt (pw_or (pt_cmpR (op_eq) (pv 1) pe_int (nomark _)) (pw_or1 (pt_cmpR (op_lt) (pv 2) pe_int (nomark _))))) (pss_one (ps_ret (pe_tup (pa_cons (pe_ix (ix_list) (pe_lst (pa_cons pe_str (pa_cons pe_str (pa_cons pe_str (pa_cons pe_str (pa_cons pe_str pa_nil)))))) (pe_op (op_mod) (pv 2) pe_int) (fun _ _ => rfl)) (pa_cons (pv 3) pa_nil))))) pss_nil)
      (pss_cons (ps_set (i := 4) sc__law_words.nd rfl (Or.inl rfl) (pe_op (op_mod) (pe_op (op_add) (pe_op (op_add) (pv 3) pe_int) (pe_op (op_mod) (pe_fn c__law_mixed hr pass0 (pa_cons (pv 0) (pa_cons pe_int pa_nil))) (pe_op (op_sub) (pv 1) pe_int))) (pv 1)))
      (pss_one (ps_ret (pe_tup (pa_cons (pe_ix (ix_list) (pe_lst (pa_cons pe_str (pa_cons pe_str (pa_cons pe_str (pa_cons pe_str pa_nil))))) (pe_op (op_sub) (pv 2) pe_int) (fun _ _ => rfl)) (pa_cons (pv 4) (pa_cons (pv 3) pa_nil)))))))))), ?_⟩
  fail "st"
  fail "go"
  refine ⟨c, 1, rfl, by decide, fun m1 h1 => ?_⟩
  fail "go"
  refine ⟨c, 2, rfl, by decide, fun m2 h2 => ?_⟩
  fail "go"
  rename_i t et ht
  refine iteD (fun c1 => ?_) (fun c1 => ?_)
  · fail "go"
    rename_i pl kpl
    obtain ⟨m5, e5, h5⟩ := emod_nat ((m1 : Int) % 9) (n := 5) (by decide)
    rw [show (m1 : Int) % 9 % 5 = (m5 : Int) from e5]
    refine st_ixL (SqL.of upd_same) (at_k5 h5) ?_
    fail "go"
    rename_i p2 hp2
    exact q p2 _ ⟨k5 m5, [t]⟩ (by fail "sm") upd_same ⟨(k5_n m5).symm, fun x hx => by rw [List.mem_singleton.mp hx]; exact ht, by simp⟩
  · fail "go"
    refine iteD (fun c2 => ?_) (fun c2 => ?_)
    · fail "go"
      rename_i pl kpl
      obtain ⟨m5, e5, h5⟩ := emod_nat ((m1 : Int) % 9) (n := 5) (by decide)
      rw [show (m1 : Int) % 9 % 5 = (m5 : Int) from e5]
      refine st_ixL (SqL.of upd_same) (at_k5 h5) ?_
      fail "go"
      rename_i p2 hp2
      exact q p2 _ ⟨k5 m5, [t]⟩ (by fail "sm") upd_same ⟨(k5_n m5).symm, fun x hx => by rw [List.mem_singleton.mp hx]; exact ht, by simp⟩
    · fail "go"
      refine ⟨c, 3, rfl, by decide, fun m3 h3 => ?_⟩
      fail "go"
      rename_i j ej hj pl kpl
      obtain ⟨m4, e4⟩ : ∃ m4 : Nat, (m1 : Int) % 9 - 5 = (m4 : Int) := ⟨((m1 : Int) % 9 - 5).toNat, by omega⟩
      rw [e4]
      refine st_ixL (SqL.of upd_same) (at_k4 (by omega)) ?_
      fail "go"
      rename_i p2 hp2
      have hji : t ≠ j := ne_modI ht (Int.emod_nonneg _ (by omega)) (Int.emod_lt_of_pos _ (by omega)) ej
      refine q p2 _ ⟨k4 m4, [j, t]⟩ (by fail "sm") upd_same ⟨(k4_n m4).symm, fun x hx => ?_, by simp [Ne.symm hji]⟩
      rcases List.mem_cons.mp hx with rfl | hx
      · exact hj
      · rw [List.mem_singleton.mp hx]
        exact ht
theorem ok_read_number {f : Addr} {fd : FuncData} (F : Fun K "read_number" "read_number" s_read_number f fd) (b_int : mg "int" = none) (g_MOST_FIGURES : GC mg "MOST_FIGURES" (.int 60)) (c_NoText : ExcC K mg "NoText" C_NoText) (b_all : mg "all" = none) (b_len : mg "len" = none) (g_FIGURES : GC mg "FIGURES" (.str "0123456789")) : FnOk P w K mg base (CXE P w) 1 f fd ["text"] (sp_read_number K C_NoText) := by
  refine F.okE sc_read_number (fun vs H Q E h => ?_) (fun cdv A outer s H vs Q E hr h => ?_)
  · obtain ⟨_, rfl, _⟩ := h
    rfl
  obtain ⟨l, rfl, hl, qY, qN⟩ := h
  refine ⟨_, (pss_cons (ps_if (PW.pt (pw_or (pt_cmpR (op_eq) (pe_callB (call_lenQ) rfl b_len PySem.boot_len (pa_cons (pv 0) pa_nil)) pe_int (nomark _)) (pw_or1 (pt_cmpR (op_gt) (pe_callB (call_lenQ) rfl b_len PySem.boot_len (pa_cons (pv 0) pa_nil)) (pe_gc g_MOST_FIGURES) (nomark _))))) (pss_one (ps_raise c_NoText raisesE (pa_cons pe_str pa_nil) rfl)) pss_nil)
      (pss_cons (ps_if (pt_not (pt_val (pe_callB (call_allB rfl) rfl b_all boot_all (pa_cons (pe_comp (sc := defScope s_read_number) rfl ⟨rfl, by decide +kernel, rfl, by decide +kernel, by decide +kernel, by decide +kernel, by decide +kernel⟩ (by show ("sign" : Str) ∉ (["text"] : List Str); decide +kernel) (by show (".0" : Str) ∉ (["text"] : List Str); decide +kernel) sc_read_number.nd rfl (pi_str (pv 0)) (fun _ _ _ _ => pif_nil) (fun _ _ _ _ => (pe_cmpR (op_inS) (pv 0) (pe_gc g_FIGURES) rfl))) pa_nil)))) (pss_one (ps_raise c_NoText raisesE (pa_cons pe_str pa_nil) rfl)) pss_nil)
      (pss_cons (ps_if (PW.pt (pw_and (pt_cmpR (op_eq) (pe_ix (ix_str) (pv 0) pe_int (fun _ _ => rfl)) pe_str (nomark _)) (pw_and1 (pt_cmpR (op_gt) (pe_callB (call_lenQ) rfl b_len PySem.boot_len (pa_cons (pv 0) pa_nil)) pe_int (nomark _))))) (pss_one (ps_raise c_NoText raisesE (pa_cons pe_str pa_nil) rfl)) pss_nil)
      (pss_one (ps_ret (pe_callTy (call_intS) rfl b_int boot_int (pa_cons (pv 0) pa_nil))))))), ?_⟩
  fail "st"
  fail "lit"
  have hl' : l.length ≤ 1000 := by omega
  fail "go"
  refine iteD (fun c => ?_) (fun c1 => ?_)
  · fail "go"
    exact ⟨by decide, qN (fun r => by have := r.1; omega) H (Same.refl _)⟩
  fail "go"
  refine iteD (fun c => ?_) (fun c2 => ?_)
  · fail "go"
    exact ⟨by decide, qN (fun r => by have := r.2.1; omega) H (Same.refl _)⟩
  fail "go"
  refine st_comp_str (l := l) (fun P h => ⟨_, rfl, h⟩) (fun i ys H' => H' = H ∧ ys = ((l.take i).map fun c => decide (c ∈ [48, 49, 50, 51, 52, 53, 54, 55, 56, 57])).map V.bl) hl' ⟨rfl, rfl⟩ ?_ ?_ ?_
  · rintro i ys H' ⟨_, rfl⟩
    rw [List.length_map, List.length_map, List.length_take]
    omega
  · rintro i c ys H' hc ⟨rfl, rfl⟩
    fail "go"
    refine ⟨rfl, ?_⟩
    rw [take_succ_of hc, List.map_append, List.map_append]
    rfl
  · rintro ys H' ⟨rfl, rfl⟩ p hp
    fail "go"
    refine st_all (bs := (l.take l.length).map fun c => decide (c ∈ [48, 49, 50, 51, 52, 53, 54, 55, 56, 57])) (SqL.of upd_same) ?_
    rw [List.take_length]
    have S1 := same_new hp (.lst (((l.map fun c => decide (c ∈ [48, 49, 50, 51, 52, 53, 54, 55, 56, 57]))).map V.bl))
    generalize upd H' p (.lst (((l.map fun c => decide (c ∈ [48, 49, 50, 51, 52, 53, 54, 55, 56, 57]))).map V.bl)) = G at S1 ⊢
    cases hb : (l.map fun c => decide (c ∈ [48, 49, 50, 51, 52, 53, 54, 55, 56, 57])).all id with
    | false =>
      fail "go"
      exact ⟨by decide, qN (fun r => by
        rw [all_figs.2 r.2.2.1] at hb
        cases hb) G S1⟩
    | true =>
      have hd := all_figs.1 hb
      fail "go"
      obtain ⟨c0, cs, rfl⟩ : ∃ c0 cs, l = c0 :: cs := by
        cases l with
        | nil => simp at c1
        | cons c0 cs => exact ⟨c0, cs, rfl⟩
      fail "go"
      refine iteD (fun c => ?_) (fun c3 => ?_)
      · have c48 : c0 = 48 := by
          have := congrArg (fun z : Str => z.cps.toList) c
          simpa using this
        fail "go"
        refine iteD (fun c4 => ?_) (fun c4 => ?_)
        · fail "go"
          exact ⟨by decide, qN (fun r => r.2.2.2 ⟨by rw [c48]; rfl, by omega⟩) G S1⟩
        · fail "go"
          have r : rdOk (c0 :: cs) := ⟨by omega, by omega, hd, fun z => c4 (by have := z.2; omega)⟩
          exact ⟨_, _, rfl, by omega, rd_int r, qY r G S1⟩
      · fail "go"
        have r : rdOk (c0 :: cs) := ⟨by omega, by omega, hd, fun z => c3 (by have := Option.some.inj z.1; rw [this])⟩
        exact ⟨_, _, rfl, by omega, rd_int r, qY r G S1⟩
theorem ok_read_row {f : Addr} {fd : FuncData} (F : Fun K "read_row" "read_row" s_read_row f fd) (c_row_of : Cal P w K mg base (CXE P w) 1 "row_of" ["text"] (sp_row_of K C_NoText)) (b_len : mg "len" = none) (c_NoText : ExcC K mg "NoText" C_NoText) : FnOk P w K mg base (CXE P w) 2 f fd ["text", "n"] (sp_read_row K C_NoText) := by
  refine F.okE sc_read_row (fun vs H Q E h => ?_) (fun cdv A outer s H vs Q E hr h => ?_)
  · obtain ⟨_, _, rfl, _⟩ := h
    rfl
  obtain ⟨l, n, rfl, hl, h1, hn, qY, qN⟩ := h
  refine ⟨_, (pss_cons (ps_set (i := 2) sc_read_row.nd rfl (Or.inl rfl) (pe_fn c_row_of hr passE (pa_cons (pv 0) pa_nil)))
      (pss_cons (ps_if (pt_cmpR (op_ne) (pe_callB (call_lenQ) rfl b_len PySem.boot_len (pa_cons (pv 0) pa_nil)) (pe_op (op_add) (pv 1) pe_int) (nomark _)) (pss_one (ps_raise c_NoText raisesE (pa_cons pe_str pa_nil) rfl)) pss_nil)
      (pss_one (ps_ret (pv 2))))), ?_⟩
  fail "st"
  fail "go"
  have el' : (43 :: l).length ≤ 1000 := by rw [List.length_cons]; omega
  refine ⟨_, rfl, ?_⟩
  by_cases g : Good (43 :: l)
  case neg =>
    refine .inr ⟨.inr ⟨_, rfl, el', g⟩, fun H' hS => qN (fun ⟨x, z, hx, hz, e⟩ => g ?_) H' hS⟩
    rw [← e]
    exact word_good (m := 0) h1 hn
  case pos =>
    refine .inl ⟨_, rfl, g, fun r p H' hS hp ok e => ?_⟩
    rw [List.length_cons, Nat.add_sub_cancel] at ok e
    fail "go"
    refine iteN (fun c => ?_) (fun c => ?_)
    · fail "go"
      refine ⟨by decide, qN (fun ⟨x, z, hx, hz, e2⟩ => c ?_) H' hS⟩
      rw [← e2, List.length_cons, signs_len]
      push_cast
      rfl
    · have c' : l.length = n := by
        rw [List.length_cons] at c
        push_cast at c
        omega
      rw [c'] at ok e
      fail "go"
      obtain ⟨m, x, z⟩ := r
      have e3 : minus m :: signs x z n = 43 :: l := e
      injection e3 with e4 e5
      have hm : m = 0 := by
        have := ok.m
        unfold minus at e4
        split at e4
        · cases e4
        · dsimp only at this
          omega
      subst hm
      exact qY x z p H' hS ok.x ok.z e5 hp
theorem ok_read_look {f : Addr} {fd : FuncData} (F : Fun K "read_look" "read_look" s_read_look f fd) (c_read_row : Cal P w K mg base (CXE P w) 2 "read_row" ["text", "n"] (sp_read_row K C_NoText)) (c_weight_of : Cal P w K mg base CX0 2 "weight_of" ["row"] (sp_weight_of K)) (c_NoText : ExcC K mg "NoText" C_NoText) (g_XS : GC mg "XS" (.int 1)) (g_ZS : GC mg "ZS" (.int 2)) : FnOk P w K mg base (CXE P w) 3 f fd ["letters", "n"] (sp_read_look K C_NoText) := by
  refine F.okE sc_read_look (fun vs H Q E h => ?_) (fun cdv A outer s H vs Q E hr h => ?_)
  · obtain ⟨_, _, rfl, _⟩ := h
    rfl
  obtain ⟨l, n, rfl, hl, h1, hn, qY, qN⟩ := h
  refine ⟨_, (pss_cons (ps_set (i := 2) sc_read_look.nd rfl (Or.inl rfl) (pe_fn c_read_row hr passE (pa_cons (pe_op (op_addS) pe_str (pv 0)) (pa_cons (pv 1) pa_nil))))
      (pss_cons (ps_if (pt_cmpR (op_eq) (pe_fn c_weight_of hr pass0 (pa_cons (pv 2) pa_nil)) pe_int (nomark _)) (pss_one (ps_raise c_NoText raisesE (pa_cons pe_str pa_nil) rfl)) pss_nil)
      (pss_one (ps_ret (pe_tup (pa_cons pe_str (pa_cons (pe_ix (ix_tup) (pv 2) (pe_gc g_XS) (fun _ _ => rfl)) (pa_cons (pe_ix (ix_tup) (pv 2) (pe_gc g_ZS) (fun _ _ => rfl)) pa_nil)))))))), ?_⟩
  fail "st"
  simp only [lit1]
  fail "go"
  refine ⟨l, n, rfl, by omega, h1, hn, fun x z p H' hS hx hz e hp => ?_, fun no H' hS => qN (fun ⟨x, z, ok, e⟩ => no ⟨x, z, ok.1, ok.2.1, e⟩) H' hS⟩
  have hp' : SqT K H' p [.int ((0 : Nat) : Int), .int (x : Int), .int (z : Int)] := SqT.of hp
  fail "go"
  refine ⟨p, ⟨0, x, z⟩, rfl, SqT.of hp, ?_⟩
  fail "go"
  refine iteD (fun c => ?_) (fun c => ?_)
  · fail "go"
    refine ⟨by decide, qN (fun ⟨x', z', ok, e2⟩ => ?_) H' hS⟩
    obtain ⟨e3, e4⟩ := signs_inj hx hz ok.1 ok.2.1 (e.trans e2.symm)
    subst e3 e4
    exact pop_pos (or_ne ok.2.2) (by
      have c' : ((pop (x ||| z) : Nat) : Int) = 0 := c
      omega)
  · fail "go"
    rename_i p2 hp2
    have ne : x ≠ 0 ∨ z ≠ 0 := by
      by_cases h0 : x = 0
      · by_cases h2 : z = 0
        · subst h0 h2
          exact (c (by decide +kernel)).elim
        · exact .inr h2
      · exact .inl h0
    exact qY x z p2 _ (hS.trans (same_new hp2 _)) ⟨hx, hz, ne⟩ e upd_same
theorem ok_read_step {f : Addr} {fd : FuncData} (F : Fun K "read_step" "read_step" s_read_step f fd) (b_tuple : mg "tuple" = none) (c_read_look : Cal P w K mg base (CXE P w) 3 "read_look" ["letters", "n"] (sp_read_look K C_NoText)) (c_deed_of : Cal P w K mg base (CXE P w) 5 "deed_of" ["words", "n"] (sp_deed_of K CD_D C_NoDeed C_NoWire)) (c_NoDeed : ExcC K mg "NoDeed" C_NoDeed) (c_NoWire : ExcC K mg "NoWire" C_NoWire) (c_NoText : ExcC K mg "NoText" C_NoText) (c_read_number : Cal P w K mg base (CXE P w) 1 "read_number" ["text"] (sp_read_number K C_NoText)) (kt_NoText_NoText : PySem.W.kitOne K (.ref C_NoText) (.ref C_NoText) = some true) (kt_NoText_NoRow : PySem.W.kitOne K (.ref C_NoText) (.ref C_NoRow) = some false) (kt_NoText_NoDeed : PySem.W.kitOne K (.ref C_NoText) (.ref C_NoDeed) = some false) (kt_NoText_NoWire : PySem.W.kitOne K (.ref C_NoText) (.ref C_NoWire) = some false) (em_NoText_WireError : PySem.W.exmOne K (.ref C_NoText) (.ref C_WireError) = some true) (em_NoDeed_NoDeed : PySem.W.exmOne K (.ref C_NoDeed) (.ref C_NoDeed) = some true) (em_NoDeed_NoWire : PySem.W.exmOne K (.ref C_NoDeed) (.ref C_NoWire) = some false) (em_NoWire_NoDeed : PySem.W.exmOne K (.ref C_NoWire) (.ref C_NoDeed) = some false) (em_NoWire_NoWire : PySem.W.exmOne K (.ref C_NoWire) (.ref C_NoWire) = some true) : FnOk P w K mg base (CXE P w) 6 f fd ["text", "n"] (sp_read_step K C_NoText) := by
  refine F.okE sc_read_step (fun vs H Q E h => ?_) (fun cdv A outer s H vs Q E hr h => ?_)
  · obtain ⟨_, _, rfl, _⟩ := h
    rfl
  obtain ⟨p, n, rfl, ⟨tl, ta⟩, h1, hn, qY, qN⟩ := h
  refine ⟨_, (pss_cons (ps_set (i := 2) sc_read_step.nd rfl (Or.inl rfl) (pe_bm PySem.F.plainAttrs_str PySem.F.slot_str_split PySem.F.type_str_split mt_split (pv 0) (pa_cons pe_str pa_nil)))
      (pss_cons (ps_if (pt_cmpR (op_eq) (pe_ix (ix_list) (pv 2) pe_int (fun _ _ => rfl)) pe_str (nomark _)) (pss_one (ps_ret (pe_fn c_read_look hr passE (pa_cons (pe_bm PySem.F.plainAttrs_str PySem.F.slot_str_join PySem.F.type_str_join mt_joinG pe_str (pa_cons (pe_slice (sl_list) (pv 2) (po_some pe_int) po_none) pa_nil)) (pa_cons (pv 1) pa_nil))))) pss_nil)
      (pss_cons (ps_set (i := 3) sc_read_step.nd rfl (Or.inl rfl) (pe_callTy (call_tupL) rfl b_tuple boot_tuple (pa_cons (pe_op (op_cat) (pe_lst (pa_cons (pe_ix (ix_list) (pv 2) pe_int (fun _ _ => rfl)) pa_nil)) (pe_compE (sc := defScope s_read_step) rfl ⟨rfl, by decide +kernel, rfl, by decide +kernel, by decide +kernel, by decide +kernel, by decide +kernel⟩ (by show ("word" : Str) ∉ (["text", "n", "words", "step"] : List Str); decide +kernel) (by show (".0" : Str) ∉ (["text", "n", "words", "step"] : List Str); decide +kernel) sc_read_step.nd rfl (pi_list (pe_slice (sl_list) (pv 2) (po_some pe_int) po_none)) (fun _ _ _ _ => pif_nil) (fun _ _ _ _ => (pe_fn c_read_number hr passC (pa_cons (pv 0) pa_nil))) passA)) pa_nil)))
      (pss_cons (ps_tryR c_NoDeed.at_ c_NoWire.at_ c_NoText raisesHD rfl rfl (psx_expr (pex_fn c_deed_of hr (pa_cons (pv 3) (pa_cons (pv 1) pa_nil)))))
      (pss_one (ps_ret (pv 3))))))), ?_⟩
  fail "st"
  fail "lit"
  fail "go"
  refine st_split (by decide) (by omega) fun p1 hp1 => ?_
  have hsl := spl_len p [32] (by decide)
  have hpart : ∀ l ∈ spl p [32], l.length ≤ 890 ∧ ∀ c ∈ l, c < 128 := fun l hl => by
    have := spl_part hl
    exact ⟨by omega, fun c hc => ta c (this.2 c hc)⟩
  obtain ⟨w, ws, es⟩ := spl_cons p [32]
  rw [es] at hsl hpart
  rw [es]
  rw [List.length_cons] at hsl
  have S1 := same_new hp1 (.lst ((w :: ws).map T))
  have f1 : SqL K (upd H p1 (.lst ((w :: ws).map T))) p1 (T w :: ws.map T) := SqL.of upd_same
  generalize upd H p1 (.lst ((w :: ws).map T)) = G at S1 f1 ⊢
  have hwt : (inter [32] ws).length ≤ 890 := by
    have h2 := tail_len [32] w ws
    rw [← es, spl_join] at h2
    omega
  fail "go"
  refine st_ixL f1 (at_first _ _) ?_
  fail "go"
  refine iteD (fun c => ?_) (fun c => ?_)
  · have hw : w = [108, 111, 111, 107] := by
      have := congrArg (fun z : Str => z.cps.toList) c
      simpa using this
    subst hw
    fail "go"
    rename_i p2 hp2
    rw [cut1]
    refine st_joinG (ls := ws) (SqL.of upd_same) (by decide) (by omega) (fun l hl => by have := (hpart l (List.mem_cons_of_mem _ hl)).1; omega) ?_
    fail "go"
    refine ⟨inter [32] ws, n, rfl, by omega, h1, hn, fun x z a H' hS ok e ha => ?_, fun no H' hS => ?_⟩
    · exact qY (.look x z) a H' ((S1.trans (same_new hp2 _)).trans hS) (look_rd h1 ok es e) ha
    · refine (qN (fun ⟨s, hs⟩ => no ?_) H' ((S1.trans (same_new hp2 _)).trans hS)).1
      obtain ⟨x, z, rfl, ok, e⟩ := rd_look hs es
      exact ⟨x, z, ok, by rw [e]; rfl⟩
  · have hw : w ≠ [108, 111, 111, 107] := fun z => c (by rw [z])
    fail "go"
    refine st_ixL f1 (at_first _ _) ?_
    fail "go"
    rename_i p2 hp2
    have S2 := S1.trans (same_new hp2 (.lst [T w]))
    have f2 : (upd G p2 (.lst [T w])) p2 = some (.lst [T w]) := upd_same
    have g1 := (same_new hp2 (.lst [T w])).seq f1
    generalize upd G p2 (.lst [T w]) = G2 at S2 f2 g1 ⊢
    refine st_cpE ?_
    fail "go"
    rename_i p3 hp3
    rw [cut1]
    have S3 := S2.trans (same_new hp3 (.lst (ws.map T)))
    have f3 : SqL K (upd G2 p3 (.lst (ws.map T))) p3 (ws.map T) := SqL.of upd_same
    have f2' := same_new hp3 (.lst (ws.map T)) _ _ f2
    generalize upd G2 p3 (.lst (ws.map T)) = G3 at S3 f3 f2' ⊢
    refine st_cpAt f3 (fun i ys H' => Same G3 H' ∧ ys = ((ws.take i).map fun l => ((NumText.digitsVal l : Nat) : Int)).map V.int ∧ ∀ l ∈ ws.take i, rdOk l) (by rw [List.length_map]; omega) ⟨Same.refl _, rfl, fun _ z => (nomatch z)⟩ ?_ ?_ ?_ ?_
    · rintro i ys H' ⟨_, rfl, _⟩
      rw [List.length_map, List.length_map, List.length_take]
      omega
    · rintro i ys H' ⟨s, _⟩
      exact s.seq f3
    · rintro i x ys H' hx ⟨s, rfl, hr⟩
      rw [List.getElem?_map] at hx
      cases hj : ws[i]? with
      | none => rw [hj] at hx; cases hx
      | some l =>
        rw [hj] at hx
        obtain rfl : T l = x := Option.some.inj hx
        have hlm := List.mem_of_getElem? hj
        fail "go"
        refine ⟨l, rfl, by have := (hpart l (List.mem_cons_of_mem _ hlm)).1; omega, fun rk H3 s3 => ?_, fun rk H3 s3 => ?_⟩
        · refine ⟨s.trans s3, ?_, fun l' hl' => ?_⟩
          · rw [take_succ_of hj, List.map_append, List.map_append]
            rfl
          · rw [take_succ_of hj] at hl'
            rcases List.mem_append.1 hl' with z | z
            · exact hr l' z
            · rw [List.mem_singleton.1 z]
              exact rk
        · refine (qN (fun ⟨s, hs⟩ => rk ?_) H3 ((S3.trans s).trans s3)).1
          obtain ⟨d, rfl, _, _, _, _, hrd⟩ := rd_deed hn hs es hw
          exact hrd l hlm
    · rintro ys H' ⟨s, rfl, hr⟩ p4 hp4
      rw [List.length_map, List.take_length] at hr
      rw [List.length_map, List.take_length]
      generalize his : (ws.map fun l => ((NumText.digitsVal l : Nat) : Int)) = is
      have lis : is.length = ws.length := by rw [← his, List.length_map]
      have S4 := (S3.trans s).trans (same_new hp4 (.lst (is.map V.int)))
      have f4 : (upd H' p4 (.lst (is.map V.int))) p4 = some (.lst (is.map V.int)) := upd_same
      have f24 := same_new hp4 (.lst (is.map V.int)) _ _ (s _ _ f2')
      generalize upd H' p4 (.lst (is.map V.int)) = G4 at S4 f4 f24 ⊢
      refine st_cat f24 f4 (by rw [List.length_map]; show 1 + is.length ≤ 1000; omega) fun p5 hp5 => ?_
      have S5 := S4.trans (same_new hp5 (.lst ([T w] ++ is.map V.int)))
      have f5 : (upd G4 p5 (.lst ([T w] ++ is.map V.int))) p5 = some (.lst ([T w] ++ is.map V.int)) := upd_same
      generalize upd G4 p5 (.lst ([T w] ++ is.map V.int)) = G5 at S5 f5 ⊢
      fail "go"
      refine ⟨p5, _, rfl, SqL.of f5, by rw [List.length_append, List.length_map]; show 1 + is.length ≤ 900; omega, fun p6 hp6 => ?_⟩
      have S6 := S5.trans (same_new hp6 (.tup ([T w] ++ is.map V.int)))
      have f6 : (upd G5 p6 (.tup ([T w] ++ is.map V.int))) p6 = some (.tup (.str ⟨w.toArray⟩ :: is.map V.int)) := upd_same
      generalize upd G5 p6 (.tup ([T w] ++ is.map V.int)) = G6 at S6 f6 ⊢
      fail "go"
      refine st_tryR ?_
      fail "go"
      have mis : ∀ l : List Nat, l ∈ ws → ((NumText.digitsVal l : Nat) : Int) ∈ is := fun l hl => by rw [← his]; exact List.mem_map.2 ⟨l, hl, rfl⟩
      have bad : (¬ ∃ s, Rd n p s) → ∀ H', Same G6 H' → (none : Option Nat) = none ∧ ∃ C', Value.ref C_NoDeed = .ref C' ∧ PySem.W.exmAny K (.ref C') [.ref C_NoDeed, .ref C_NoWire] = some true ∧ E (.ref C_NoText) none H' ∧ E (.ref C_NoText) (some 0) H' := fun no H' hS => ⟨rfl, _, rfl, exm2 em_NoDeed_NoDeed em_NoDeed_NoWire, qN no H' (S6.trans hS)⟩
      have bad2 : (¬ ∃ s, Rd n p s) → ∀ H', Same G6 H' → (none : Option Nat) = none ∧ ∃ C', Value.ref C_NoWire = .ref C' ∧ PySem.W.exmAny K (.ref C') [.ref C_NoDeed, .ref C_NoWire] = some true ∧ E (.ref C_NoText) none H' ∧ E (.ref C_NoText) (some 0) H' := fun no H' hS => ⟨rfl, _, rfl, exm2 em_NoWire_NoDeed em_NoWire_NoWire, qN no H' (S6.trans hS)⟩
      refine ⟨_, n, rfl, ?_⟩
      by_cases hk : ∃ k, wdL k = w
      case neg =>
        refine .inl ⟨.word f6 (tab_no fun k z => hk ⟨k, ?_⟩) (ok_asc (hpart w List.mem_cons_self).2) (ints_flat _) (by rw [List.length_map]; omega), bad fun ⟨s, hs⟩ => ?_⟩
        · unfold wdL
          rw [z]
        · obtain ⟨d, rfl, _, e, _⟩ := rd_deed hn hs es hw
          exact hk ⟨d.k, e⟩
      case pos =>
        obtain ⟨k, rfl⟩ := hk
        have hkw : (⟨(wdL k).toArray⟩ : Str) = k.word := (str_T k.word).symm
        rw [hkw] at f6
        by_cases hl : ws.length = k.n
        case neg =>
          refine .inl ⟨.len f6 (by rw [List.length_map]; omega) (ints_flat _) (by rw [List.length_map]; omega), bad fun ⟨s, hs⟩ => ?_⟩
          obtain ⟨d, rfl, ok, e, e2, _⟩ := rd_deed hn hs es hw
          have := wdL_inj e
          apply hl
          rw [e2, List.length_map, ← this]
          exact Dd.Ok.len ok
        case pos =>
          have isd : ∀ d : Dd, ws.map NumText.digitsVal = d.w → is = d.w.map fun x : Nat => (x : Int) := fun d e => by rw [← his, ← e, List.map_map]; rfl
          by_cases nd : is.Nodup
          case neg =>
            have no : ¬ ∃ s, Rd n p s := fun ⟨s, hs⟩ => by
              obtain ⟨d, rfl, ok, _, _, e3, _⟩ := rd_deed hn hs es hw
              apply nd
              rw [isd d e3]
              exact nodup_int (Dd.Ok.nd ok)
            have h2 : ∃ i, is = [i, i] ∧ k.n = 2 := by
              have hk2 := k.n_pos
              rcases Nat.lt_or_ge k.n 2 with h | h
              · obtain ⟨i, rfl⟩ := len1 (is := is) (by omega)
                exact (nd (by simp)).elim
              · obtain ⟨i, j, rfl⟩ := len2 (is := is) (by omega)
                by_cases hij : i = j
                · subst hij
                  exact ⟨i, rfl, by omega⟩
                · exact (nd (by simp [hij])).elim
            obtain ⟨i, rfl, hk2⟩ := h2
            exact .inl ⟨.same f6 hk2, bad no⟩
          case pos =>
            refine .inr ⟨p6, k, is, rfl, ⟨f6, by omega, nd⟩, fun hin pd d3 H3 hS3 hd3 hk3 hw3 => ?_, fun hno => bad2 fun ⟨s, hs⟩ => hno fun i hi => ?_⟩
            · fail "go"
              refine qY (.deed ⟨k, ws.map NumText.digitsVal⟩) p6 H3 (S6.trans hS3) (deed_rd hn es hr hl (fun l hl => ?_) ?_) ?_
              · have := (hin _ (mis l hl)).2
                omega
              · have nd2 := nd
                rw [← his, show (ws.map fun l => ((NumText.digitsVal l : Nat) : Int)) = (ws.map NumText.digitsVal).map fun x : Nat => (x : Int) by rw [List.map_map]; rfl] at nd2
                exact nd_of_int nd2
              · have := hS3 _ _ f6
                unfold Sa
                rw [this]
                show _ = some (HO.tup (V.str k.word :: vn (ws.map NumText.digitsVal)))
                rw [vn_ints, show (ws.map NumText.digitsVal).map (fun x : Nat => (x : Int)) = is by rw [← his, List.map_map]; rfl]
            · obtain ⟨d, rfl, ok, _, _, e3, _⟩ := rd_deed hn hs es hw
              rw [isd d e3] at hi
              exact vn_rng ok i hi
theorem ok_read_work {f : Addr} {fd : FuncData} (F : Fun K "read_work" "read_work" s_read_work f fd) (b_isinstance : mg "isinstance" = none) (b_str : mg "str" = none) (c_NoText : ExcC K mg "NoText" C_NoText) (c_read_step : Cal P w K mg base (CXE P w) 6 "read_step" ["text", "n"] (sp_read_step K C_NoText)) : FnOk P w K mg base (CXE P w) 7 f fd ["text", "n"] (sp_read_work K C_NoText) := by
  refine F.okE sc_read_work (fun vs H Q E h => ?_) (fun cdv A outer s H vs Q E hr h => ?_)
  · obtain ⟨_, _, rfl, _⟩ := h
    rfl
  obtain ⟨v, n, rfl, h1, hn, hq⟩ := h
  refine ⟨_, (pss_cons (ps_if (pt_not (pt_val (pe_isB rfl b_isinstance (pv 0) b_str boot_str))) (pss_one (ps_raise c_NoText raisesE (pa_cons pe_str pa_nil) rfl)) pss_nil)
      (pss_cons (ps_if (pt_cmpR (op_eq) (pv 0) pe_str (nomark _)) (pss_one (ps_ret (pe_lst pa_nil))) pss_nil)
      (pss_one (ps_ret (pe_compE (sc := defScope s_read_work) rfl ⟨rfl, by decide +kernel, rfl, by decide +kernel, by decide +kernel, by decide +kernel, by decide +kernel⟩ (by show ("part" : Str) ∉ (["text", "n"] : List Str); decide +kernel) (by show (".0" : Str) ∉ (["text", "n"] : List Str); decide +kernel) sc_read_work.nd rfl (pi_list (pe_bm PySem.F.plainAttrs_str PySem.F.slot_str_split PySem.F.type_str_split mt_split (pv 0) (pa_cons pe_str pa_nil))) (fun _ _ _ _ => pif_nil) (fun _ _ _ _ => (pe_fn c_read_step hr passC (pa_cons (pv 0) (pa_cons (pv 2) pa_nil)))) passA))))), ?_⟩
  fail "st"
  fail "lit"
  fail "go"
  rcases hq with ⟨ns, qE⟩ | ⟨l, rfl, ⟨tl, ta⟩, qY, qN⟩
  · obtain ⟨t, ty, kt⟩ := ns.ty
    refine st_isi ty kt ?_
    fail "go"
    exact ⟨by decide, (qE H (Same.refl _)).1⟩
  · refine st_isi (TyOf.str _) kit_str_str ?_
    fail "go"
    refine iteD (fun c => ?_) (fun c => ?_)
    · have hl : l = [] := by
        have := congrArg (fun z : Str => z.cps.toList) c
        simpa using this
      subst hl
      fail "go"
      rename_i p hp
      exact qY [] p [] _ (same_new hp _) (.inl ⟨rfl, rfl⟩) upd_same .nil
    · have hl : l ≠ [] := fun z => c (by rw [z])
      fail "go"
      refine st_cpE ?_
      fail "go"
      refine st_split (by decide) (by omega) fun p1 hp1 => ?_
      have hsl := spl_len l [59, 32] (by decide)
      have hpart : ∀ p ∈ spl l [59, 32], Tx p := fun p hp => by
        have := spl_part hp
        exact ⟨by omega, fun c hc => ta c (this.2 c hc)⟩
      have hrds : ∀ ss, Rds n l ss → All2 (Rd n) (spl l [59, 32]) ss := fun ss h => by
        rcases h with ⟨z, _⟩ | ⟨_, h⟩
        · exact (hl z).elim
        · exact h
      have hall : ∀ ss, All2 (Rd n) (spl l [59, 32]) ss → Rds n l ss := fun ss h => .inr ⟨hl, h⟩
      generalize spl l [59, 32] = ps at hsl hpart hrds hall ⊢
      have S1 := same_new hp1 (.lst (ps.map T))
      have f1 : SqL K (upd H p1 (.lst (ps.map T))) p1 (ps.map T) := SqL.of upd_same
      generalize upd H p1 (.lst (ps.map T)) = G at S1 f1 ⊢
      refine st_cpAt f1 (fun i ys H' => Same G H' ∧ ∃ as ss, ys = refs as ∧ All2 (Sa H') as ss ∧ All2 (Rd n) (ps.take i) ss) (by rw [List.length_map]; omega) ⟨Same.refl _, [], [], rfl, .nil, .nil⟩ ?_ ?_ ?_ ?_
      · rintro i ys H' ⟨_, as, ss, rfl, e, e2⟩
        rw [refs_len, e.len, ← e2.len, List.length_take]
        omega
      · rintro i ys H' ⟨s, _⟩
        exact s.seq f1
      · rintro i x ys H' hx ⟨s, as, ss, rfl, e, e2⟩
        rw [List.getElem?_map] at hx
        cases hs : ps[i]? with
        | none => rw [hs] at hx; cases hx
        | some p =>
          rw [hs] at hx
          obtain rfl : T p = x := Option.some.inj hx
          fail "go"
          refine ⟨p, n, rfl, hpart p (List.mem_of_getElem? hs), h1, hn, fun t a H3 s3 hr h3 => ?_, fun no => ?_⟩
          · refine ⟨s.trans s3, as ++ [a], ss ++ [t], refs_snoc _ _, (e.mono fun a t x => s3 _ _ x).snoc h3, ?_⟩
            rw [take_succ_of hs]
            exact e2.snoc hr
          · have nos : ¬ ∃ ss, Rds n l ss := fun ⟨ss', h'⟩ => by
              obtain ⟨t, _, hr⟩ := (hrds ss' h').get hs
              exact no ⟨t, hr⟩
            exact fun H3 s3 => qN nos H3 ((S1.trans s).trans s3)
      · rintro ys H' ⟨s, as, ss, rfl, e, e2⟩ p hp
        rw [List.length_map, List.take_length] at e2
        exact qY ss p as _ ((S1.trans s).trans (same_new hp _)) (hall ss e2) upd_same (e.mono fun a t x => same_new hp _ _ _ x)
theorem ok__law_text {f : Addr} {fd : FuncData} (F : Fun K "_law_text" "_law_text" s__law_text f fd) (c__law_signs : Cal P w K mg base CX0 3 "_law_signs" ["_law_draw", "_law_n"] (sp__law_signs K)) (c__law_mixed : Cal P w K mg base CX0 1 "_law_mixed" ["_law_draw", "_law_k"] (sp__law_mixed K)) (b_str : mg "str" = none) (c__law_words : Cal P w K mg base CX0 2 "_law_words" ["_law_draw", "_law_n"] (sp__law_words K)) (b_range : mg "range" = none) : FnOk P w K mg base CX0 4 f fd ["_law_draw", "_law_n"] (sp__law_text K) := by
  refine F.ok sc__law_text (fun vs H Q E h => ?_) (fun cdv A outer s H vs Q E hr h => ?_)
  · obtain ⟨_, _, rfl, _⟩ := h
    rfl
  obtain ⟨c, n, rfl, h0, hn, q⟩ := h
  refine ⟨_, (pss_cons (ps_if (pt_cmpR (op_eq) (pe_op (op_mod) (pe_fn c__law_mixed hr pass0 (pa_cons (pv 0) (pa_cons pe_int pa_nil))) pe_int) pe_int (nomark _)) (pss_cons (ps_asg (pe_fn c__law_signs hr pass0 (pa_cons (pv 0) (pa_cons (pv 1) pa_nil))) (pg_tup rfl (pgs_cons (pg_name (i := 2) sc__law_text.nd rfl (Or.inr rfl)) (pgs_cons (pg_name (i := 3) sc__law_text.nd rfl (Or.inr rfl)) pgs_nil))))
      (pss_one (ps_ret (pe_op (op_addS) pe_str (pe_bm PySem.F.plainAttrs_str PySem.F.slot_str_join PySem.F.type_str_join mt_join pe_str (pa_cons (pe_comp (sc := defScope s__law_text) rfl ⟨rfl, by decide +kernel, rfl, by decide +kernel, by decide +kernel, by decide +kernel, by decide +kernel⟩ (by show ("_law_k" : Str) ∉ (["_law_draw", "_law_n", "_law_xs", "_law_zs"] : List Str); decide +kernel) (by show (".0" : Str) ∉ (["_law_draw", "_law_n", "_law_xs", "_law_zs"] : List Str); decide +kernel) sc__law_text.nd rfl (pi_range1 rfl b_range (pa_cons (pv 1) pa_nil)) (fun _ _ _ _ => pif_nil) (fun _ _ _ _ => (pe_ix (ix_str) pe_str (pe_op (op_add) (pe_op (op_and) (pe_op (op_shr) (pv 3) (pv 0)) pe_int) (pe_op (op_mul) pe_int (pe_op (op_and) (pe_op (op_shr) (pv 4) (pv 0)) pe_int))) (fun _ _ => rfl)))) pa_nil)))))) pss_nil)
      (pss_one (ps_ret (pe_bm PySem.F.plainAttrs_str PySem.F.slot_str_join PySem.F.type_str_join mt_joinG pe_str (pa_cons (pe_comp (sc := defScope s__law_text) rfl ⟨rfl, by decide +kernel, rfl, by decide +kernel, by decide +kernel, by decide +kernel, by decide +kernel⟩ (by show ("_law_word" : Str) ∉ (["_law_draw", "_law_n", "_law_xs", "_law_zs"] : List Str); decide +kernel) (by show (".0" : Str) ∉ (["_law_draw", "_law_n", "_law_xs", "_law_zs"] : List Str); decide +kernel) sc__law_text.nd rfl (pi_tup (pe_fn c__law_words hr pass0 (pa_cons (pv 0) (pa_cons (pv 1) pa_nil)))) (fun _ _ _ _ => pif_nil) (fun _ _ _ _ => (pe_callTy (call_strX) rfl b_str boot_str (pa_cons (pv 0) pa_nil)))) pa_nil))))), ?_⟩
  fail "st"
  fail "lit"
  fail "go"
  refine ⟨c, 40, rfl, by omega, fun m hm => ?_⟩
  fail "go"
  refine iteD (fun _ => ?_) (fun _ => ?_)
  · fail "go"
    refine ⟨c, n, rfl, h0, hn, fun p H' x z hS hp ok => ?_⟩
    have hp' := SqT.of (K := K) hp
    fail "go"
    refine st_comp_range (n := n) (by omega) (fun P h => ⟨_, rfl, h⟩) (fun i ys H2 => ys = (signs x z i).map (fun c => T [c]) ∧ H2 = H') ⟨rfl, rfl⟩ ?_ ?_ ?_
    · rintro i ys H2 ⟨rfl, rfl⟩
      rw [List.length_map, signs_len]
      omega
    · rintro i ys H2 hi ⟨rfl, rfl⟩
      fail "go"
      refine st_ixS (c := sg _ _) (by decide) (at_sg _ _) ⟨?_, rfl⟩
      rw [signs_succ, List.map_append]
      rfl
    · rintro ys H2 ⟨rfl, rfl⟩ p2 hp2
      fail "go"
      refine st_joinS (cs := signs x z n) (SqL.of upd_same) (by rw [signs_len]; omega) ?_
      refine st_addS (by rw [signs_len]; show 5 + n ≤ 1000; omega) ?_
      exact q (.look x z) _ (hS.trans (same_new hp2 _)) ok
  · fail "go"
    refine st_compE ?_
    fail "go"
    refine ⟨c, n, rfl, h0, hn, fun a H' d hS ha ok => ?_⟩
    obtain ⟨k, w⟩ := d
    unfold Sa at ha
    have ha' : SqT K H' a (.str k.word :: vn w) := SqT.of ha
    have hl := Dd.Ok.len ok
    have hlt := Dd.Ok.lt ok
    have hkn := k.n_pos
    dsimp only at hl hlt
    refine st_compAt ha' (fun i ys H2 => H2 = H' ∧ ys = ((Sx.ws n (.deed ⟨k, w⟩)).take i).map T) (by rw [List.length_cons, vn_len]; omega) ⟨rfl, rfl⟩ ?_ ?_ ?_ ?_
    · rintro i ys H2 ⟨_, rfl⟩
      rw [List.length_map, List.length_take]
      omega
    · rintro i ys H2 ⟨rfl, _⟩
      exact ha'
    · rintro i x ys H2 hx ⟨rfl, rfl⟩
      fail "go"
      rcases i with _ | i
      · obtain rfl : V.str k.word = x := Option.some.inj hx
        refine .inr ⟨_, rfl, rfl, ?_⟩
        rw [word_T]
        rfl
      · obtain ⟨j, rfl, hj⟩ := vn_at (show (vn w)[i]? = some x from hx)
        have hj2 := hlt j (List.mem_of_getElem? hj)
        refine .inl ⟨(j : Int), rfl, by omega, rfl, ?_⟩
        have e : (Sx.ws n (.deed ⟨k, w⟩))[i + 1]? = some (dec (j : Int)) := by
          show (w.map fun i : Nat => dec (i : Int))[i]? = _
          rw [List.getElem?_map, hj]
          rfl
        rw [take_succ_of e, List.map_append]
        rfl
    · rintro ys H2 ⟨rfl, rfl⟩ p hp
      have e : (V.str k.word :: vn w).length = (Sx.ws n (.deed ⟨k, w⟩)).length := by
        show (vn w).length + 1 = (w.map fun i : Nat => dec (i : Int)).length + 1
        rw [vn_len, List.length_map]
      rw [e, List.take_length]
      fail "go"
      refine st_joinG (ls := Sx.ws n (.deed ⟨k, w⟩)) (SqL.of upd_same) (by decide) (by rw [← e, List.length_cons, vn_len]; omega) (fun l hl => ?_) ?_
      · have := (ws_free (s := .deed ⟨k, w⟩) ok hn l hl).2.2
        omega
      · exact q (.deed ⟨k, w⟩) _ (hS.trans (same_new hp _)) ok
theorem ok__law_number {f : Addr} {fd : FuncData} (F : Fun K "_law_number" "_law_number" s__law_number f fd) (b_int : mg "int" = none) (b_len : mg "len" = none) : FnOk P w K mg base CX0 1 f fd ["_law_word", "_law_n"] (sp__law_number K) := by
  refine F.ok sc__law_number (fun vs H Q E h => ?_) (fun cdv A outer s H vs Q E hr h => ?_)
  · obtain ⟨_, _, rfl, _⟩ := h
    rfl
  obtain ⟨l, n, rfl, hl, h1, hn, qY, qN⟩ := h
  refine ⟨_, (pss_cons (ps_if (PW.pt (pw_or (pt_cmpR (op_eq) (pv 0) pe_str (nomark _)) (pw_or (pt_cmpR (op_gt) (pe_callB (call_lenQ) rfl b_len PySem.boot_len (pa_cons (pv 0) pa_nil)) pe_int (nomark _)) (pw_or1 (PW.pt (pw_and (pt_cmpR (op_eq) (pe_ix (ix_str) (pv 0) pe_int (fun _ _ => rfl)) pe_str (nomark _)) (pw_and1 (pt_cmpR (op_gt) (pe_callB (call_lenQ) rfl b_len PySem.boot_len (pa_cons (pv 0) pa_nil)) pe_int (nomark _))))))))) (pss_one (ps_ret pe_non)) pss_nil)
      (pss_cons (ps_for PassesOwn.never rfl (pi_str (pv 0)) (pg_name (i := 2) sc__law_number.nd rfl (Or.inl rfl)) (pss_one (ps_if (pt_cmpR (op_notInS) (pv 2) pe_str rfl) (pss_one (ps_ret pe_non)) pss_nil)))
      (pss_cons (ps_if (pt_cmpR (op_ge) (pe_callTy (call_intS) rfl b_int boot_int (pa_cons (pv 0) pa_nil)) (pv 1) (nomark _)) (pss_one (ps_ret pe_non)) pss_nil)
      (pss_one (ps_ret (pe_callTy (call_intS) rfl b_int boot_int (pa_cons (pv 0) pa_nil))))))), ?_⟩
  fail "st"
  fail "lit"
  have hl' : l.length ≤ 1000 := by omega
  have dk : ∀ k : Nat, k < n → l = dec (k : Int) → rdOk l ∧ l.length ≤ 2 ∧ NumText.digitsVal l = k := fun k hk e => by
    have := dec_rdOk (k := k) (by omega)
    rw [e]
    exact ⟨this.1, (dec_rd k (by omega)).1.2.1, this.2⟩
  fail "go"
  refine iteD (fun c => ?_) (fun c0 => ?_)
  · fail "go"
    have : l = [] := by
      have := congrArg (fun z : Str => z.cps.toList) c
      simpa using this
    exact qN fun ⟨k, hk, e⟩ => by
      have := (dk k hk e).1.1
      simp_all
  fail "go"
  refine iteD (fun c => ?_) (fun c2 => ?_)
  · fail "go"
    exact qN fun ⟨k, hk, e⟩ => by
      have := (dk k hk e).2.1
      omega
  obtain ⟨a, as, rfl⟩ : ∃ a as, l = a :: as := by
    cases l with
    | nil => exact (c0 rfl).elim
    | cons a as => exact ⟨a, as, rfl⟩
  have one_eq : ∀ a b : Nat, (⟨[a].toArray⟩ : Str) = ⟨[b].toArray⟩ → a = b := fun a b h => by
    have := congrArg (fun z : Str => z.cps.toList) h
    simpa using this
  fail "go"
  refine iteD (fun ca => ?_) (fun ca => ?_)
  all_goals fail "go"
  refine iteD (fun cb => ?_) (fun cb => ?_)
  · fail "go"
    exact qN fun ⟨k, hk, e⟩ => (dk k hk e).1.2.2.2 ⟨by rw [one_eq _ _ ca]; rfl, by omega⟩
  all_goals
    have nz : ¬ ((a :: as)[0]? = some 48 ∧ 1 < (a :: as).length) := fun z => by
      first
      | exact ca (by rw [Option.some.inj z.1])
      | (have := z.2; omega)
    fail "go"
    refine st_for_str (l := a :: as) (fun P h => ⟨_, rfl, h⟩) (fun i σ H' => ∃ u : Option V, σ = [some (T (a :: as)), some (.int n), u] ∧ H' = H ∧ ∀ c ∈ (a :: as).take i, 48 ≤ c ∧ c ≤ 57) ⟨none, rfl, rfl, fun _ z => (nomatch z)⟩ ?_ ?_
    · rintro i c' σ H' hc' ⟨u, rfl, rfl, hd⟩
      fail "go"
      by_cases hin : c' ∈ [48, 49, 50, 51, 52, 53, 54, 55, 56, 57]
      · rw [decide_eq_true hin]
        fail "go"
        refine ⟨_, rfl, rfl, fun c hc => ?_⟩
        rw [take_succ_of hc'] at hc
        rcases List.mem_append.1 hc with z | z
        · exact hd c z
        · rw [List.mem_singleton.1 z]
          simp only [List.mem_cons, List.not_mem_nil, or_false] at hin
          omega
      · rw [decide_eq_false hin]
        fail "go"
        refine qN fun ⟨k, hk, e⟩ => hin ?_
        have := (dk k hk e).1.2.2.1 c' (List.mem_of_getElem? hc')
        simp only [List.mem_cons, List.not_mem_nil, or_false]
        omega
    · rintro σ H' ⟨u, rfl, rfl, hd⟩
      rw [List.take_length] at hd
      have r : rdOk (a :: as) := ⟨by simp, by omega, hd, nz⟩
      fail "go"
      refine ⟨_, _, rfl, by omega, rd_int r, ?_⟩
      fail "go"
      refine iteD (fun cv => ?_) (fun cv => ?_)
      · fail "go"
        exact qN fun ⟨k, hk, e⟩ => by
          have := (dk k hk e).2.2
          omega
      · fail "go"
        refine ⟨_, _, rfl, by omega, rd_int r, ?_⟩
        refine qY _ (by omega) (rd_dec r (by omega)).1.symm
theorem ok__law_read {f : Addr} {fd : FuncData} (F : Fun K "_law_read" "_law_read" s__law_read f fd) (b_isinstance : mg "isinstance" = none) (b_str : mg "str" = none) (c__law_read_one : Cal P w K mg base CX0 2 "_law_read_one" ["_law_part", "_law_n"] (sp__law_read_one K)) : FnOk P w K mg base CX0 3 f fd ["_law_text_here", "_law_n"] (sp__law_read K) := by
  refine F.ok sc__law_read (fun vs H Q E h => ?_) (fun cdv A outer s H vs Q E hr h => ?_)
  · obtain ⟨_, _, rfl, _⟩ := h
    rfl
  obtain ⟨v, n, rfl, h1, hn, hq⟩ := h
  refine ⟨_, (pss_cons (ps_if (pt_not (pt_val (pe_isB rfl b_isinstance (pv 0) b_str boot_str))) (pss_one (ps_ret pe_non)) pss_nil)
      (pss_cons (ps_if (pt_cmpR (op_eq) (pv 0) pe_str (nomark _)) (pss_one (ps_ret (pe_lst pa_nil))) pss_nil)
      (pss_cons (ps_setC (i := 2) rfl (Or.inl rfl) (sc := defScope s__law_read) rfl ⟨rfl, by decide +kernel, rfl, by decide +kernel, by decide +kernel, by decide +kernel, by decide +kernel⟩ (by show ("_law_part" : Str) ∉ (["_law_text_here", "_law_n", "_law_found"] : List Str); decide +kernel) (by show (".0" : Str) ∉ (["_law_text_here", "_law_n", "_law_found"] : List Str); decide +kernel) sc__law_read.nd rfl (pi_list (pe_bm PySem.F.plainAttrs_str PySem.F.slot_str_split PySem.F.type_str_split mt_split (pv 0) (pa_cons pe_str pa_nil))) (fun _ _ _ _ => pif_nil) (fun _ _ _ _ => (pe_fn c__law_read_one hr pass0 (pa_cons (pv 0) (pa_cons (pv 2) pa_nil)))))
      (pss_cons (ps_if (pt_cmpR (op_inN (hu_of64 hr)) pe_non (pv 2) rfl) (pss_one (ps_ret pe_non)) pss_nil)
      (pss_one (ps_ret (pv 2))))))), ?_⟩
  fail "st"
  fail "lit"
  fail "go"
  rcases hq with ⟨ns, qE⟩ | ⟨l, rfl, ⟨tl, ta⟩, qY, qN⟩
  · obtain ⟨t, ty, kt⟩ := ns.ty
    refine st_isi ty kt ?_
    fail "go"
    exact qE H (Same.refl _)
  · refine st_isi (TyOf.str _) kit_str_str ?_
    fail "go"
    refine iteD (fun c => ?_) (fun c => ?_)
    · have hl : l = [] := by
        have := congrArg (fun z : Str => z.cps.toList) c
        simpa using this
      subst hl
      fail "go"
      rename_i p hp
      exact qY [] p [] _ (same_new hp _) (.inl ⟨rfl, rfl⟩) upd_same .nil
    · have hl : l ≠ [] := fun z => c (by rw [z])
      fail "go"
      refine st_cpE ?_
      fail "go"
      refine st_split (by decide) (by omega) fun p1 hp1 => ?_
      have hsl := spl_len l [59, 32] (by decide)
      have hpart : ∀ p ∈ spl l [59, 32], Tx p := fun p hp => by
        have := spl_part hp
        exact ⟨by omega, fun c hc => ta c (this.2 c hc)⟩
      have hrds : ∀ ss, Rds n l ss → All2 (Rd n) (spl l [59, 32]) ss := fun ss h => by
        rcases h with ⟨z, _⟩ | ⟨_, h⟩
        · exact (hl z).elim
        · exact h
      have hall : ∀ ss, All2 (Rd n) (spl l [59, 32]) ss → Rds n l ss := fun ss h => .inr ⟨hl, h⟩
      generalize spl l [59, 32] = ps at hsl hpart hrds hall ⊢
      have S1 := same_new hp1 (.lst (ps.map T))
      have f1 : SqL K (upd H p1 (.lst (ps.map T))) p1 (ps.map T) := SqL.of upd_same
      generalize upd H p1 (.lst (ps.map T)) = G at S1 f1 ⊢
      refine st_cpAt f1 (fun i ys H' => Same G H' ∧ All2 (Ro n H') (ps.take i) ys) (by rw [List.length_map]; omega) ⟨Same.refl _, .nil⟩ ?_ ?_ ?_ ?_
      · rintro i ys H' ⟨_, e⟩
        rw [← e.len, List.length_take]
        omega
      · rintro i ys H' ⟨s, _⟩
        exact s.seq f1
      · rintro i x ys H' hx ⟨s, e⟩
        rw [List.getElem?_map] at hx
        cases hs : ps[i]? with
        | none => rw [hs] at hx; cases hx
        | some p =>
          rw [hs] at hx
          obtain rfl : T p = x := Option.some.inj hx
          fail "go"
          refine ⟨p, n, rfl, hpart p (List.mem_of_getElem? hs), h1, hn, fun t a H3 s3 hr h3 => ?_, fun no H3 s3 => ?_⟩
          · refine ⟨s.trans s3, ?_⟩
            rw [take_succ_of hs]
            exact (e.mono fun p v x => x.same s3).snoc (.inr ⟨t, a, rfl, hr, h3⟩)
          · refine ⟨s.trans s3, ?_⟩
            rw [take_succ_of hs]
            exact (e.mono fun p v x => x.same s3).snoc (.inl ⟨rfl, no⟩)
      · rintro ys H' ⟨s, e⟩ p hp
        rw [List.length_map, List.take_length] at e
        have S2 := (S1.trans s).trans (same_new hp (.lst ys))
        have e' : All2 (Ro n (upd H' p (.lst ys))) ps ys := e.mono fun p v x => x.same (same_new hp _)
        have f2 : (upd H' p (.lst ys)) p = some (.lst ys) := upd_same
        generalize upd H' p (.lst ys) = G2 at S2 e' f2 ⊢
        fail "go"
        refine st_inN (SqL.of f2) (fun v hv => Ro.ft e' hv) fun b hb => ?_
        cases b with
        | true =>
          fail "go"
          refine qN (fun ⟨ss, hss⟩ => ?_) _ S2
          exact Ro.none e' (hb.1 rfl) (hrds ss hss)
        | false =>
          fail "go"
          obtain ⟨as, ss, rfl, h2, h3⟩ := Ro.all e' (fun z => by have := hb.2 z; cases this)
          exact qY ss p as _ S2 (hall ss h2) f2 h3
theorem ok__law_told {f : Addr} {fd : FuncData} (F : Fun K "_law_told" "_law_told" s__law_told f fd) (c_WireError : ExcC K mg "WireError" C_WireError) (c_read_work : Cal P w K mg base (CXE P w) 7 "read_work" ["text", "n"] (sp_read_work K C_NoText)) (b_isinstance : mg "isinstance" = none) (c_NoRow : ExcC K mg "NoRow" C_NoRow) (c_NoDeed : ExcC K mg "NoDeed" C_NoDeed) (c_NoWire : ExcC K mg "NoWire" C_NoWire) (c_NoText : ExcC K mg "NoText" C_NoText) (kt_NoText_NoText : PySem.W.kitOne K (.ref C_NoText) (.ref C_NoText) = some true) (kt_NoText_NoRow : PySem.W.kitOne K (.ref C_NoText) (.ref C_NoRow) = some false) (kt_NoText_NoDeed : PySem.W.kitOne K (.ref C_NoText) (.ref C_NoDeed) = some false) (kt_NoText_NoWire : PySem.W.kitOne K (.ref C_NoText) (.ref C_NoWire) = some false) (em_NoText_WireError : PySem.W.exmOne K (.ref C_NoText) (.ref C_WireError) = some true) (em_NoDeed_NoDeed : PySem.W.exmOne K (.ref C_NoDeed) (.ref C_NoDeed) = some true) (em_NoDeed_NoWire : PySem.W.exmOne K (.ref C_NoDeed) (.ref C_NoWire) = some false) (em_NoWire_NoDeed : PySem.W.exmOne K (.ref C_NoWire) (.ref C_NoDeed) = some false) (em_NoWire_NoWire : PySem.W.exmOne K (.ref C_NoWire) (.ref C_NoWire) = some true) : FnOk P w K mg base CX0 8 f fd ["_law_text_here", "_law_n"] (sp__law_told K) := by
  refine F.ok sc__law_told (fun vs H Q E h => ?_) (fun cdv A outer s H vs Q E hr h => ?_)
  · obtain ⟨_, _, rfl, _⟩ := h
    rfl
  obtain ⟨v, n, rfl, h1, hn, hq⟩ := h
  refine ⟨_, (pss_cons (ps_set (i := 2) sc__law_told.nd rfl (Or.inl rfl) pe_non)
      (pss_cons (ps_try (i := 3) c_WireError.at_ sc__law_told.nd rfl rfl rfl rfl rfl (psx_set (i := 2) sc__law_told.nd rfl (Or.inl rfl) (pex_fn c_read_work hr (pa_cons (pv 0) (pa_cons (pv 1) pa_nil)))) (fun _ => (pss_cons (ps_set (i := 4) sc__law_told.nd rfl (Or.inl rfl) (pe_or (pe_isXOK (K := K) rfl rfl b_isinstance (pv 3) c_NoRow.at_) (pe_or (pe_isXOK (K := K) rfl rfl b_isinstance (pv 3) c_NoDeed.at_) (pe_one (pe_isXOK (K := K) rfl rfl b_isinstance (pv 3) c_NoWire.at_)))))
      (pss_one (ps_if (PW.pt (pw_and (pt_val (pe_isXOK (K := K) rfl rfl b_isinstance (pv 3) c_NoText.at_)) (pw_and1 (pt_not (pt_val (pv 4)))))) (pss_one (ps_ret pe_str)) pss_nil)))))
      (pss_one (ps_ret (pv 2))))), ?_⟩
  fail "st"
  fail "lit"
  fail "go"
  refine ⟨v, n, rfl, h1, hn, ?_⟩
  have bad : (∀ H', Same H H' → Q (T [110, 111, 110, 101]) H') → ∀ H' : Hp, Same H H' → ∀ ea : Addr, H' ea = none → Q (T [110, 111, 110, 101]) (upd H' ea (xO ea C_NoText)) := fun q H' hS ea hea => q _ (hS.trans (same_new hea _))
  rcases hq with ⟨ns, qE⟩ | ⟨l, rfl, tx, qY, qN⟩
  · refine .inl ⟨ns, fun H' hS => ⟨⟨_, rfl, em_NoText_WireError, fun ea hea => ?_⟩, ⟨_, rfl, em_NoText_WireError, fun ea hea => ?_⟩⟩⟩
    all_goals
      fail "go"
      refine st_isX upd_same c_NoText.k kt_NoText_NoRow ?_
      fail "go"
      refine st_isX upd_same c_NoText.k kt_NoText_NoDeed ?_
      fail "go"
      refine st_isX upd_same c_NoText.k kt_NoText_NoWire ?_
      fail "go"
      refine st_isX upd_same c_NoText.k kt_NoText_NoText ?_
      fail "go"
      exact bad qE H' hS ea hea
  · refine .inr ⟨l, rfl, tx, fun ss p as H' hS hr hp ha => ?_, fun no H' hS => ⟨⟨_, rfl, em_NoText_WireError, fun ea hea => ?_⟩, ⟨_, rfl, em_NoText_WireError, fun ea hea => ?_⟩⟩⟩
    · fail "go"
      exact qY ss p as H' hS hr hp ha
    all_goals
      fail "go"
      refine st_isX upd_same c_NoText.k kt_NoText_NoRow ?_
      fail "go"
      refine st_isX upd_same c_NoText.k kt_NoText_NoDeed ?_
      fail "go"
      refine st_isX upd_same c_NoText.k kt_NoText_NoWire ?_
      fail "go"
      refine st_isX upd_same c_NoText.k kt_NoText_NoText ?_
      fail "go"
      exact bad (qN no) H' hS ea hea
theorem ok__law_read_one {f : Addr} {fd : FuncData} (F : Fun K "_law_read_one" "_law_read_one" s__law_read_one f fd) (b_sum : mg "sum" = none) (c__law_number : Cal P w K mg base CX0 1 "_law_number" ["_law_word", "_law_n"] (sp__law_number K)) (b_len : mg "len" = none) (b_range : mg "range" = none) : FnOk P w K mg base CX0 2 f fd ["_law_part", "_law_n"] (sp__law_read_one K) := by
  refine F.ok sc__law_read_one (fun vs H Q E h => ?_) (fun cdv A outer s H vs Q E hr h => ?_)
  · obtain ⟨_, _, rfl, _⟩ := h
    rfl
  obtain ⟨p, n, rfl, ⟨tl, ta⟩, h1, hn, qY, qN⟩ := h
  refine ⟨_, (pss_cons (ps_set (i := 2) sc__law_read_one.nd rfl (Or.inl rfl) (pe_bm PySem.F.plainAttrs_str PySem.F.slot_str_split PySem.F.type_str_split mt_split (pv 0) (pa_cons pe_str pa_nil)))
      (pss_cons (ps_if (pt_cmpR (op_eq) (pe_ix (ix_list) (pv 2) pe_int (fun _ _ => rfl)) pe_str (nomark _)) (pss_cons (ps_if (PW.pt (pw_or (pt_cmpR (op_ne) (pe_callB (call_lenQ) rfl b_len PySem.boot_len (pa_cons (pv 2) pa_nil)) pe_int (nomark _)) (pw_or (pt_cmpR (op_ne) (pe_callB (call_lenQ) rfl b_len PySem.boot_len (pa_cons (pe_ix (ix_list) (pv 2) pe_int (fun _ _ => rfl)) pa_nil)) (pv 1) (nomark _)) (pw_or1 (pt_cmpR (op_eq) (pe_ix (ix_list) (pv 2) pe_int (fun _ _ => rfl)) (pe_op (op_mulS) pe_str (pv 1)) (nomark _)))))) (pss_one (ps_ret pe_non)) pss_nil)
      (pss_cons (ps_set (i := 3) sc__law_read_one.nd rfl (Or.inr rfl) (pe_ix (ix_list) (pv 2) pe_int (fun _ _ => rfl)))
      (pss_cons (ps_if (pt_cmpR (op_neD (hu_of64 hr)) (pe_comp (sc := defScope s__law_read_one) rfl ⟨rfl, by decide +kernel, rfl, by decide +kernel, by decide +kernel, by decide +kernel, by decide +kernel⟩ (by show ("_law_sign" : Str) ∉ (["_law_part", "_law_n", "_law_words_here", "_law_letters", "_law_xs", "_law_numbers"] : List Str); decide +kernel) (by show (".0" : Str) ∉ (["_law_part", "_law_n", "_law_words_here", "_law_letters", "_law_xs", "_law_numbers"] : List Str); decide +kernel) sc__law_read_one.nd rfl (pi_str (pv 3)) (fun _ _ _ _ => (pif_one (pt_cmpR (op_notInS) (pv 0) pe_str rfl))) (fun _ _ _ _ => (pv 0))) (pe_lst pa_nil) (nomark _)) (pss_one (ps_ret pe_non)) pss_nil)
      (pss_cons (ps_set (i := 4) sc__law_read_one.nd rfl (Or.inl rfl) (pe_callB (call_sumL rfl) rfl b_sum boot_sum (pa_cons (pe_comp (sc := defScope s__law_read_one) rfl ⟨rfl, by decide +kernel, rfl, by decide +kernel, by decide +kernel, by decide +kernel, by decide +kernel⟩ (by show ("_law_k" : Str) ∉ (["_law_part", "_law_n", "_law_words_here", "_law_letters", "_law_xs", "_law_numbers"] : List Str); decide +kernel) (by show (".0" : Str) ∉ (["_law_part", "_law_n", "_law_words_here", "_law_letters", "_law_xs", "_law_numbers"] : List Str); decide +kernel) sc__law_read_one.nd rfl (pi_range1 rfl b_range (pa_cons (pv 1) pa_nil)) (fun _ _ _ _ => (pif_one (pt_cmpR (op_inS) (pe_ix (ix_str) (pv 4) (pv 0) (fun _ _ => rfl)) pe_str rfl))) (fun _ _ _ _ => (pe_op (op_shl) pe_int (pv 0)))) pa_nil)))
      (pss_one (ps_ret (pe_tup (pa_cons pe_str (pa_cons (pv 4) (pa_cons (pe_callB (call_sumL rfl) rfl b_sum boot_sum (pa_cons (pe_comp (sc := defScope s__law_read_one) rfl ⟨rfl, by decide +kernel, rfl, by decide +kernel, by decide +kernel, by decide +kernel, by decide +kernel⟩ (by show ("_law_k" : Str) ∉ (["_law_part", "_law_n", "_law_words_here", "_law_letters", "_law_xs", "_law_numbers"] : List Str); decide +kernel) (by show (".0" : Str) ∉ (["_law_part", "_law_n", "_law_words_here", "_law_letters", "_law_xs", "_law_numbers"] : List Str); decide +kernel) sc__law_read_one.nd rfl (pi_range1 rfl b_range (pa_cons (pv 1) pa_nil)) (fun _ _ _ _ => (pif_one (pt_cmpR (op_inS) (pe_ix (ix_str) (pv 4) (pv 0) (fun _ _ => rfl)) pe_str rfl))) (fun _ _ _ _ => (pe_op (op_shl) pe_int (pv 0)))) pa_nil)) pa_nil)))))))))) pss_nil)
      (pss_cons (ps_setC (i := 5) rfl (Or.inl rfl) (sc := defScope s__law_read_one) rfl ⟨rfl, by decide +kernel, rfl, by decide +kernel, by decide +kernel, by decide +kernel, by decide +kernel⟩ (by show ("_law_word" : Str) ∉ (["_law_part", "_law_n", "_law_words_here", "_law_letters", "_law_xs", "_law_numbers"] : List Str); decide +kernel) (by show (".0" : Str) ∉ (["_law_part", "_law_n", "_law_words_here", "_law_letters", "_law_xs", "_law_numbers"] : List Str); decide +kernel) sc__law_read_one.nd rfl (pi_list (pe_slice (sl_list) (pv 2) (po_some pe_int) po_none)) (fun _ _ _ _ => pif_nil) (fun _ _ _ _ => (pe_fn c__law_number hr pass0 (pa_cons (pv 0) (pa_cons (pv 2) pa_nil)))))
      (pss_cons (ps_if (PW.pt (pw_or (pt_cmpR (op_inK rfl) pe_non (pv 5) rfl) (pw_or1 (pt_cmpR (op_eq) (pe_callB (call_lenQ) rfl b_len PySem.boot_len (pa_cons (pv 5) pa_nil)) pe_int (nomark _))))) (pss_one (ps_ret pe_non)) pss_nil)
      (pss_cons (ps_if (PW.pt (pw_and (pt_cmpR (op_inK rfl) (pe_ix (ix_list) (pv 2) pe_int (fun _ _ => rfl)) (pe_tup (pa_cons pe_str (pa_cons pe_str (pa_cons pe_str (pa_cons pe_str pa_nil))))) rfl) (pw_and1 (pt_cmpR (op_eq) (pe_callB (call_lenQ) rfl b_len PySem.boot_len (pa_cons (pv 5) pa_nil)) pe_int (nomark _))))) (pss_one (ps_ret (pe_tup (pa_cons (pe_ix (ix_list) (pv 2) pe_int (fun _ _ => rfl)) (pa_cons (pe_ix (ix_list) (pv 5) pe_int (fun _ _ => rfl)) pa_nil))))) pss_nil)
      (pss_cons (ps_if (PW.pt (pw_and (pt_cmpR (op_inK rfl) (pe_ix (ix_list) (pv 2) pe_int (fun _ _ => rfl)) (pe_tup (pa_cons pe_str (pa_cons pe_str pa_nil))) rfl) (pw_and (pt_cmpR (op_eq) (pe_callB (call_lenQ) rfl b_len PySem.boot_len (pa_cons (pv 5) pa_nil)) pe_int (nomark _)) (pw_and1 (pt_cmpR (op_ne) (pe_ix (ix_list) (pv 5) pe_int (fun _ _ => rfl)) (pe_ix (ix_list) (pv 5) pe_int (fun _ _ => rfl)) (nomark _)))))) (pss_one (ps_ret (pe_tup (pa_cons (pe_ix (ix_list) (pv 2) pe_int (fun _ _ => rfl)) (pa_cons (pe_ix (ix_list) (pv 5) pe_int (fun _ _ => rfl)) (pa_cons (pe_ix (ix_list) (pv 5) pe_int (fun _ _ => rfl)) pa_nil)))))) pss_nil)
      (pss_one (ps_ret pe_non)))))))), ?_⟩
  fail "st"
  fail "lit"
  fail "go"
  refine st_split (by decide) (by omega) fun p1 hp1 => ?_
  have hsl := spl_len p [32] (by decide)
  have hpart : ∀ l ∈ spl p [32], l.length ≤ 890 ∧ ∀ c ∈ l, c < 128 := fun l hl => by
    have := spl_part hl
    exact ⟨by omega, fun c hc => ta c (this.2 c hc)⟩
  obtain ⟨w, ws, es⟩ := spl_cons p [32]
  rw [es] at hsl hpart
  rw [es]
  rw [List.length_cons] at hsl
  have S1 := same_new hp1 (.lst ((w :: ws).map T))
  have f1 : SqL K (upd H p1 (.lst ((w :: ws).map T))) p1 (T w :: ws.map T) := SqL.of upd_same
  have f0 : (upd H p1 (.lst ((w :: ws).map T))) p1 = some (.lst (T w :: ws.map T)) := upd_same
  generalize upd H p1 (.lst ((w :: ws).map T)) = G at S1 f1 f0 ⊢
  fail "go"
  refine st_ixL f1 (at_first _ _) ?_
  fail "go"
  refine iteD (fun c => ?_) (fun c => ?_)
  · have hw : w = [108, 111, 111, 107] := by
      have := congrArg (fun z : Str => z.cps.toList) c
      simpa using this
    subst hw
    fail "go"
    refine iteN (fun c2 => ?_) (fun c2 => ?_)
    · fail "go"
      refine qN (fun ⟨s, hs⟩ => c2 ?_) _ S1
      obtain ⟨x, z, rfl, ok, e⟩ := rd_look hs es
      rw [e]
      rfl
    obtain ⟨m, rfl⟩ : ∃ m, ws = [m] := by
      rw [List.length_cons, List.length_map] at c2
      match ws, c2 with
      | [m], _ => exact ⟨m, rfl⟩
      | [], c2 => exact absurd c2 (by decide)
      | _ :: _ :: _, c2 => exact absurd c2 (by simp only [List.length_cons]; omega)
    have hm := hpart m (by simp)
    have hml : m.length ≤ 1000 := by omega
    have nolook : ∀ s, Rd n p s → ∃ x z, s = .look x z ∧ Sx.Ok n (.look x z) ∧ m = signs x z n := fun s hs => by
      obtain ⟨x, z, rfl, ok, e⟩ := rd_look hs es
      injection e with e _
      exact ⟨x, z, rfl, ok, e⟩
    have f1' : SqL K G p1 [T [108, 111, 111, 107], T m] := f1
    fail "go"
    refine iteN (fun c3 => ?_) (fun c3 => ?_)
    · fail "go"
      refine qN (fun ⟨s, hs⟩ => c3 ?_) _ S1
      obtain ⟨x, z, rfl, ok, e⟩ := nolook s hs
      rw [e, signs_len]
    have hmn : m.length = n := by omega
    fail "go"
    refine iteD (fun c4 => ?_) (fun c4 => ?_)
    · fail "go"
      refine qN (fun ⟨s, hs⟩ => ?_) _ S1
      obtain ⟨x, z, rfl, ok, e⟩ := nolook s hs
      have e2 : m = List.replicate n 46 := by
        have := congrArg (fun z : Str => z.cps.toList) c4
        simpa using this
      rw [e2, ← signs_zero] at e
      obtain ⟨z1, z2⟩ := signs_inj (Nat.two_pow_pos n) (Nat.two_pow_pos n) ok.1 ok.2.1 e
      rcases ok.2.2 with h | h
      · exact h z1.symm
      · exact h z2.symm
    fail "go"
    refine st_comp_str (l := m) (fun P h => ⟨_, rfl, h⟩) (fun i ys H' => H' = G ∧ ys = ((m.take i).filter fun c => !decide (c ∈ [46, 120, 121, 122])).map fun c => T [c]) hml ⟨rfl, rfl⟩ ?_ ?_ ?_
    · rintro i ys H' ⟨_, rfl⟩
      rw [List.length_map]
      exact Nat.le_trans (List.length_filter_le _ _) (by rw [List.length_take]; omega)
    · rintro i c' ys H' hc ⟨rfl, rfl⟩
      fail "go"
      rw [take_succ_of hc, List.filter_append, List.map_append]
      by_cases hin : c' ∈ [46, 120, 121, 122]
      · rw [decide_eq_true hin]
        fail "go"
        refine ⟨rfl, ?_⟩
        rw [List.filter_cons_of_neg (by rw [decide_eq_true hin]; decide)]
        simp
      · rw [decide_eq_false hin]
        fail "go"
        refine ⟨rfl, ?_⟩
        rw [List.filter_cons_of_pos (by rw [decide_eq_false hin]; decide)]
        rfl
    · rintro ys H' ⟨rfl, rfl⟩ p2 hp2
      rw [List.take_length]
      fail "go"
      rename_i p3 hp3
      refine st_neNil (xs := ((m.filter fun c => !decide (c ∈ [46, 120, 121, 122])).map fun c => T [c])) ((same_new hp3 _).seq (SqL.of upd_same)) (ok_texts fun c hc => hm.2 c (List.mem_filter.1 hc).1) (SqL.of upd_same) ?_
      have S3 := (S1.trans (same_new hp2 (.lst ((m.filter fun c => !decide (c ∈ [46, 120, 121, 122])).map fun c => T [c])))).trans (same_new hp3 (.lst []))
      generalize upd (upd H' p2 (.lst ((m.filter fun c => !decide (c ∈ [46, 120, 121, 122])).map fun c => T [c]))) p3 (.lst []) = G2 at S3 ⊢
      rw [show ((m.filter fun c => !decide (c ∈ [46, 120, 121, 122])).map fun c => T [c]).isEmpty = (m.filter fun c => !decide (c ∈ [46, 120, 121, 122])).isEmpty by cases (m.filter fun c => !decide (c ∈ [46, 120, 121, 122])) <;> rfl]
      cases hem : (m.filter fun c => !decide (c ∈ [46, 120, 121, 122])).isEmpty with
      | false =>
        fail "go"
        refine qN (fun ⟨s, hs⟩ => ?_) _ S3
        obtain ⟨x, z, rfl, ok, e⟩ := nolook s hs
        have : (m.filter fun c => !decide (c ∈ [46, 120, 121, 122])) = [] := by
          rw [List.filter_eq_nil_iff]
          intro c hc
          rw [e] at hc
          have := (signs_mem hc).1
          simp only [List.mem_cons, List.not_mem_nil, or_false] at this
          simp only [List.mem_cons, List.not_mem_nil, or_false, Bool.not_eq_true', decide_eq_false_iff_not, Classical.not_not]
          omega
        rw [this] at hem
        cases hem
      | true =>
        have hall : ∀ c ∈ m, c ∈ [46, 120, 121, 122] := fun c hc => by
          rw [List.isEmpty_iff, List.filter_eq_nil_iff] at hem
          by_cases hin : c ∈ [46, 120, 121, 122]
          · exact hin
          · exact (hem c hc (by rw [decide_eq_false hin]; rfl)).elim
        fail "go"
        refine st_comp_range (n := n) (by omega) (fun P h => ⟨_, rfl, h⟩) (fun i ys H2 => H2 = G2 ∧ ∃ ns : List Int, ys = ns.map V.int ∧ ns.length ≤ i ∧ ns.sum = (bsum m [120, 121] i : Nat)) ⟨rfl, [], rfl, Nat.le_refl _, rfl⟩ ?_ ?_ ?_
        · rintro i ys H2 ⟨_, ns, rfl, hl, _⟩
          rw [List.length_map]
          exact hl
        · rintro i ys H2 hi ⟨rfl, ns, rfl, hl, hs⟩
          have hg : m[i]? = some (m.getD i 0) := get_getD (by omega)
          have hga := atI_nat hg
          fail "go"
          by_cases hin : m.getD i 0 ∈ [120, 121]
          · rw [decide_eq_true hin]
            fail "go"
            refine ⟨rfl, ns ++ [((2 ^ i : Nat) : Int)], by rw [List.map_append]; rfl, by rw [List.length_append]; show ns.length + 1 ≤ i + 1; omega, ?_⟩
            rw [List.sum_append, hs]
            show _ = ((bsum m [120, 121] i + if m.getD i 0 ∈ [120, 121] then 2 ^ i else 0 : Nat) : Int)
            rw [if_pos hin]
            simp
          · rw [decide_eq_false hin]
            fail "go"
            refine ⟨rfl, ns, rfl, by omega, ?_⟩
            rw [hs]
            show _ = ((bsum m [120, 121] i + if m.getD i 0 ∈ [120, 121] then 2 ^ i else 0 : Nat) : Int)
            rw [if_neg hin]
            simp
        · rintro ys H2 ⟨rfl, ns, rfl, hl, hs⟩ p4 hp4
          fail "go"
          refine st_sum (SqL.of upd_same) ?_
          rw [hs]
          have S4 := S3.trans (same_new hp4 (.lst (ns.map V.int)))
          generalize upd H2 p4 (.lst (ns.map V.int)) = G4 at S4 ⊢
          fail "go"
          refine st_comp_range (n := n) (by omega) (fun P h => ⟨_, rfl, h⟩) (fun i ys H5 => H5 = G4 ∧ ∃ ns : List Int, ys = ns.map V.int ∧ ns.length ≤ i ∧ ns.sum = (bsum m [122, 121] i : Nat)) ⟨rfl, [], rfl, Nat.le_refl _, rfl⟩ ?_ ?_ ?_
          · rintro i ys H5 ⟨_, ns, rfl, hl, _⟩
            rw [List.length_map]
            exact hl
          · rintro i ys H5 hi ⟨rfl, ns, rfl, hl, hs⟩
            have hg : m[i]? = some (m.getD i 0) := get_getD (by omega)
            have hga := atI_nat hg
            fail "go"
            by_cases hin : m.getD i 0 ∈ [122, 121]
            · rw [decide_eq_true hin]
              fail "go"
              refine ⟨rfl, ns ++ [((2 ^ i : Nat) : Int)], by rw [List.map_append]; rfl, by rw [List.length_append]; show ns.length + 1 ≤ i + 1; omega, ?_⟩
              rw [List.sum_append, hs]
              show _ = ((bsum m [122, 121] i + if m.getD i 0 ∈ [122, 121] then 2 ^ i else 0 : Nat) : Int)
              rw [if_pos hin]
              simp
            · rw [decide_eq_false hin]
              fail "go"
              refine ⟨rfl, ns, rfl, by omega, ?_⟩
              rw [hs]
              show _ = ((bsum m [122, 121] i + if m.getD i 0 ∈ [122, 121] then 2 ^ i else 0 : Nat) : Int)
              rw [if_neg hin]
              simp
          · rintro ys H5 ⟨rfl, ms, rfl, hl2, hs2⟩ p5 hp5
            fail "go"
            refine st_sum (SqL.of upd_same) ?_
            rw [hs2]
            have S5 := S4.trans (same_new hp5 (.lst (ms.map V.int)))
            generalize upd H5 p5 (.lst (ms.map V.int)) = G5 at S5 ⊢
            fail "go"
            rename_i p6 hp6
            have hsg := bsum_signs hmn hall
            refine qY (.look (bsum m [120, 121] n) (bsum m [122, 121] n)) p6 _ (S5.trans (same_new hp6 _)) ⟨⟨bsum_lt _ _ _, bsum_lt _ _ _, ?_⟩, ?_⟩ upd_same
            · by_cases z1 : bsum m [120, 121] n = 0
              · by_cases z2 : bsum m [122, 121] n = 0
                · rw [z1, z2, signs_zero] at hsg
                  exact (c4 (by rw [← hsg])).elim
                · exact .inr z2
              · exact .inl z1
            · rw [es]
              show [[108, 111, 111, 107], signs (bsum m [120, 121] n) (bsum m [122, 121] n) n] = _
              rw [hsg]
  · have hw : w ≠ [108, 111, 111, 107] := fun z => c (by rw [z])
    fail "go"
    refine st_cpE ?_
    fail "go"
    rename_i p3 hp3
    rw [cut1]
    have S3 := S1.trans (same_new hp3 (.lst (ws.map T)))
    have f3 : SqL K (upd G p3 (.lst (ws.map T))) p3 (ws.map T) := SqL.of upd_same
    have f03 := same_new hp3 (.lst (ws.map T)) _ _ f0
    generalize upd G p3 (.lst (ws.map T)) = G3 at S3 f3 f03 ⊢
    refine st_cpAt f3 (fun i ys H' => H' = G3 ∧ All2 (Nu n) (ws.take i) ys) (by rw [List.length_map]; omega) ⟨rfl, .nil⟩ ?_ ?_ ?_ ?_
    · rintro i ys H' ⟨_, e⟩
      rw [← e.len, List.length_take]
      omega
    · rintro i ys H' ⟨rfl, _⟩
      exact f3
    · rintro i x ys H' hx ⟨rfl, e⟩
      rw [List.getElem?_map] at hx
      cases hj : ws[i]? with
      | none => rw [hj] at hx; cases hx
      | some l =>
        rw [hj] at hx
        obtain rfl : T l = x := Option.some.inj hx
        have hlm := List.mem_of_getElem? hj
        fail "go"
        refine ⟨l, n, rfl, by have := (hpart l (List.mem_cons_of_mem _ hlm)).1; omega, h1, hn, fun k hk ek => ⟨rfl, ?_⟩, fun no => ⟨rfl, ?_⟩⟩
        · rw [take_succ_of hj]
          exact e.snoc (.inl ⟨k, hk, ek, rfl⟩)
        · rw [take_succ_of hj]
          exact e.snoc (.inr ⟨rfl, no⟩)
    · rintro ys H' ⟨rfl, e⟩ p4 hp4
      rw [List.length_map, List.take_length] at e
      have hyl : ys.length = ws.length := e.len.symm
      have S4 := S3.trans (same_new hp4 (.lst ys))
      have f4 : (upd H' p4 (.lst ys)) p4 = some (.lst ys) := upd_same
      have f04 := same_new hp4 (.lst ys) _ _ f03
      generalize upd H' p4 (.lst ys) = G4 at S4 f4 f04 ⊢
      have s04 : SqL K G4 p1 (T w :: ws.map T) := SqL.of f04
      have s4 : SqL K G4 p4 ys := SqL.of f4
      fail "go"
      refine st_inLf s4 rfl (Nu.flat e) fun b hb => ?_
      cases b with
      | true =>
        fail "go"
        refine qN (fun ⟨s, hs⟩ => ?_) _ S4
        obtain ⟨d, rfl, ok, _, ed, _⟩ := rd_deed hn hs es hw
        exact Nu.no e hb ed fun i hi => Dd.Ok.lt ok i hi
      | false =>
        obtain ⟨ks, rfl, ek, hk⟩ := Nu.all e hb
        have hks : ks.length = ws.length := by rw [ek, List.length_map]
        have hds : ∀ s, Rd n p s → ∃ d : Dd, s = .deed d ∧ d.Ok n ∧ wdL d.k = w ∧ d.w = ks := fun s hs => by
          obtain ⟨d, rfl, ok, e1, e2, _⟩ := rd_deed hn hs es hw
          exact ⟨d, rfl, ok, e1, dec_inj (fun i hi => by have := Dd.Ok.lt ok i hi; omega) (fun i hi => by have := hk i hi; omega) (by rw [← e2, ek])⟩
        fail "go"
        refine iteD (fun c0 => ?_) (fun c0 => ?_)
        · fail "go"
          refine qN (fun ⟨s, hs⟩ => ?_) _ S4
          obtain ⟨d, rfl, ok, _, rfl⟩ := hds s hs
          have h2 := Dd.Ok.len ok
          have h3 := d.k.n_pos
          rw [vn_len] at c0
          omega
        fail "go"
        refine st_ixL s04 (at_first _ _) ?_
        fail "go"
        rename_i p5 hp5
        refine st_inTf (SqT.of upd_same) rfl rfl fun b hb => ?_
        have S5 := S4.trans (same_new hp5 (.tup [.str "over", .str "quarter", .str "back", .str "both"]))
        have f5 := same_new hp5 (.tup [.str "over", .str "quarter", .str "back", .str "both"]) _ _ f4
        have f05 := same_new hp5 (.tup [.str "over", .str "quarter", .str "back", .str "both"]) _ _ f04
        generalize upd G4 p5 (.tup [.str "over", .str "quarter", .str "back", .str "both"]) = G5 at S5 f5 f05 ⊢
        have s05 : SqL K G5 p1 (T w :: ws.map T) := SqL.of f05
        have s5 : SqL K G5 p4 (vn ks) := SqL.of f5
        have two : ∀ {G6 : Hp}, Same H G6 → (∀ k : DK, wdL k = w → ¬ ks.length = k.n ∨ ¬ ks.Nodup) → Q .non G6 := fun {G6} S6 no => qN (fun ⟨s, hs⟩ => by
          obtain ⟨d, rfl, ok, e1, rfl⟩ := hds s hs
          rcases no d.k e1 with h | h
          · exact h (Dd.Ok.len ok)
          · exact h (Dd.Ok.nd ok)) G6 S6
        cases b with
        | true =>
          obtain ⟨k, hk1, rfl⟩ := (in_one w).1 hb
          fail "go"
          refine iteD (fun cl => ?_) (fun cl => ?_)
          · obtain ⟨j, rfl⟩ : ∃ j, ks = [j] := by
              rw [vn_len] at cl
              exact one_wire (w := ks) (by omega)
            have s5' : SqL K G5 p4 [.int (j : Int)] := s5
            fail "go"
            refine st_ixL s05 (at_first _ _) ?_
            fail "go"
            rename_i p6 hp6
            refine qY (.deed ⟨k, [j]⟩) p6 _ (S5.trans (same_new hp6 _)) ⟨⟨hk1.symm, hk, by simp⟩, by rw [es, ek]; rfl⟩ ?_
            unfold Sa
            rw [upd_same, ← word_T]
            rfl
          · fail "go"
            refine st_ixL s05 (at_first _ _) ?_
            fail "go"
            rename_i p6 hp6
            refine st_inTf (SqT.of upd_same) rfl rfl fun b hb2 => ?_
            cases b with
            | true =>
              obtain ⟨k', hk2, e2⟩ := (in_two _).1 hb2
              rw [wdL_inj e2] at hk2
              omega
            | false =>
              fail "go"
              refine two (S5.trans (same_new hp6 _)) fun k' e2 => .inl fun z => ?_
              rw [wdL_inj e2, hk1] at z
              rw [vn_len] at cl
              omega
        | false =>
          fail "go"
          refine st_ixL s05 (at_first _ _) ?_
          fail "go"
          rename_i p6 hp6
          refine st_inTf (SqT.of upd_same) rfl rfl fun b hb2 => ?_
          have S6 := S5.trans (same_new hp6 (.tup [.str "where", .str "swap"]))
          have f6 := same_new hp6 (.tup [.str "where", .str "swap"]) _ _ f5
          have f06 := same_new hp6 (.tup [.str "where", .str "swap"]) _ _ f05
          generalize upd G5 p6 (.tup [.str "where", .str "swap"]) = G6 at S6 f6 f06 ⊢
          have s06 : SqL K G6 p1 (T w :: ws.map T) := SqL.of f06
          have s6 : SqL K G6 p4 (vn ks) := SqL.of f6
          cases b with
          | false =>
            fail "go"
            refine two S6 fun k e2 => ?_
            have hp := k.n_pos
            rcases Nat.lt_or_ge k.n 2 with h | h
            · rw [(in_one w).2 ⟨k, by omega, e2⟩] at hb
              cases hb
            · rw [(in_two w).2 ⟨k, by omega, e2⟩] at hb2
              cases hb2
          | true =>
            obtain ⟨k, hk2, rfl⟩ := (in_two w).1 hb2
            fail "go"
            refine iteD (fun cl => ?_) (fun cl => ?_)
            · obtain ⟨i, j, rfl⟩ : ∃ i j, ks = [i, j] := by
                rw [vn_len] at cl
                exact two_wires (w := ks) (by omega)
              have s6' : SqL K G6 p4 [.int (i : Int), .int (j : Int)] := s6
              fail "go"
              refine iteN (fun cn => ?_) (fun cn => ?_)
              · fail "go"
                refine st_ixL s06 (at_first _ _) ?_
                fail "go"
                rename_i p7 hp7
                refine qY (.deed ⟨k, [i, j]⟩) p7 _ (S6.trans (same_new hp7 _)) ⟨⟨hk2.symm, hk, by simp; omega⟩, by rw [es, ek]; rfl⟩ ?_
                unfold Sa
                rw [upd_same, ← word_T]
                rfl
              · fail "go"
                refine two S6 fun k' e2 => .inr fun z => ?_
                have : i = j := by omega
                subst this
                simp at z
            · fail "go"
              refine two S6 fun k' e2 => .inl fun z => ?_
              rw [wdL_inj e2, hk2] at z
              rw [vn_len] at cl
              omega
theorem ok__law_spoilt {f : Addr} {fd : FuncData} (F : Fun K "_law_spoilt" "_law_spoilt" s__law_spoilt f fd) (b_str : mg "str" = none) (c__law_mixed : Cal P w K mg base CX0 1 "_law_mixed" ["_law_draw", "_law_k"] (sp__law_mixed K)) (b_len : mg "len" = none) : FnOk P w K mg base CX0 2 f fd ["_law_text_here", "_law_draw", "_law_n"] (sp__law_spoilt K) := by
  refine F.ok sc__law_spoilt (fun vs H Q E h => ?_) (fun cdv A outer s H vs Q E hr h => ?_)
  · obtain ⟨_, _, _, rfl, _⟩ := h
    rfl
  obtain ⟨l, c, n, rfl, h0, hn, hl, hasc, q⟩ := h
  refine ⟨_, (pss_cons (ps_set (i := 3) sc__law_spoilt.nd rfl (Or.inl rfl) (pe_op (op_mod) (pe_fn c__law_mixed hr pass0 (pa_cons (pv 1) (pa_cons pe_int pa_nil))) (pe_op (op_add) (pe_callB (call_lenQ) rfl b_len PySem.boot_len (pa_cons (pv 0) pa_nil)) pe_int)))
      (pss_cons (ps_set (i := 4) sc__law_spoilt.nd rfl (Or.inl rfl) (pe_ix (ix_str) pe_str (pe_op (op_mod) (pe_fn c__law_mixed hr pass0 (pa_cons (pv 1) (pa_cons pe_int pa_nil))) pe_int) (fun _ _ => rfl)))
      (pss_cons (ps_set (i := 5) sc__law_spoilt.nd rfl (Or.inl rfl) (pe_callTy (call_strX) rfl b_str boot_str (pa_cons (pe_op (op_mod) (pe_fn c__law_mixed hr pass0 (pa_cons (pv 1) (pa_cons pe_int pa_nil))) (pv 2)) pa_nil)))
      (pss_cons (ps_set (i := 6) sc__law_spoilt.nd rfl (Or.inl rfl) (pe_lst (pa_cons (pe_op (op_addS) (pe_op (op_addS) (pe_slice (sl_str) (pv 0) po_none (po_some (pv 3))) (pv 4)) (pe_slice (sl_str) (pv 0) (po_some (pv 3)) po_none)) (pa_cons (pe_op (op_addS) (pe_slice (sl_str) (pv 0) po_none (po_some (pv 3))) (pe_slice (sl_str) (pv 0) (po_some (pe_op (op_add) (pv 3) pe_int)) po_none)) (pa_cons (pe_op (op_addS) (pe_op (op_addS) (pe_slice (sl_str) (pv 0) po_none (po_some (pv 3))) (pv 4)) (pe_slice (sl_str) (pv 0) (po_some (pe_op (op_add) (pv 3) pe_int)) po_none)) pa_nil)))))
      (pss_cons (ps_set (i := 6) sc__law_spoilt.nd rfl (Or.inl rfl) (pe_op (op_cat) (pv 6) (pe_lst (pa_cons (pe_op (op_addS) (pv 0) pe_str) (pa_cons (pe_op (op_addS) pe_str (pv 0)) pa_nil)))))
      (pss_cons (ps_set (i := 6) sc__law_spoilt.nd rfl (Or.inl rfl) (pe_op (op_cat) (pv 6) (pe_lst (pa_cons (pe_op (op_addS) (pv 0) pe_str) (pa_cons (pe_bm0 PySem.F.plainAttrs_str PySem.F.slot_str_upper PySem.F.type_str_upper mt_upper (pv 0)) (pa_cons (pe_op (op_addS) (pe_op (op_addS) (pv 0) pe_str) (pv 5)) (pa_cons (pe_op (op_addS) (pe_op (op_addS) (pv 0) pe_str) (pe_callTy (call_strX) rfl b_str boot_str (pa_cons (pv 2) pa_nil))) pa_nil)))))))
      (pss_cons (ps_set (i := 6) sc__law_spoilt.nd rfl (Or.inl rfl) (pe_op (op_cat) (pv 6) (pe_lst (pa_cons (pe_op (op_addS) (pe_op (op_addS) (pe_op (op_addS) (pe_op (op_addS) (pv 0) pe_str) (pv 5)) pe_str) (pv 5)) pa_nil))))
      (pss_cons (ps_set (i := 6) sc__law_spoilt.nd rfl (Or.inl rfl) (pe_op (op_cat) (pv 6) (pe_lst (pa_cons (pe_op (op_addS) (pe_op (op_addS) (pv 0) pe_str) (pe_op (op_mulS) pe_str (pv 2))) (pa_cons (pe_op (op_addS) (pe_op (op_addS) (pv 0) pe_str) (pe_op (op_mulS) pe_str (pv 2))) (pa_cons (pe_op (op_addS) (pe_op (op_addS) (pv 0) pe_str) (pe_op (op_mulS) pe_str (pv 2))) pa_nil))))))
      (pss_cons (ps_set (i := 6) sc__law_spoilt.nd rfl (Or.inl rfl) (pe_op (op_cat) (pv 6) (pe_lst (pa_cons (pe_op (op_addS) (pe_op (op_addS) (pv 0) pe_str) (pv 5)) pa_nil))))
      (pss_cons (ps_set (i := 6) sc__law_spoilt.nd rfl (Or.inl rfl) (pe_op (op_cat) (pv 6) (pe_lst (pa_cons (pe_op (op_addS) (pe_op (op_addS) (pv 0) pe_str) (pv 5)) (pa_cons (pe_op (op_addS) (pe_op (op_addS) (pe_op (op_addS) (pe_op (op_addS) (pv 0) pe_str) (pv 5)) pe_str) (pv 5)) (pa_cons pe_non (pa_cons pe_int (pa_cons (pe_lst (pa_cons (pv 0) pa_nil)) (pa_cons (pe_op (op_addS) (pv 0) pe_str) pa_nil)))))))))
      (pss_cons (ps_set (i := 6) sc__law_spoilt.nd rfl (Or.inl rfl) (pe_op (op_cat) (pv 6) (pe_lst (pa_cons (pe_op (op_addS) (pv 0) pe_str) pa_nil))))
      (pss_one (ps_ret (pe_ix (ix_list) (pv 6) (pe_op (op_mod) (pe_fn c__law_mixed hr pass0 (pa_cons (pv 1) (pa_cons pe_int pa_nil))) (pe_callB (call_lenQ) rfl b_len PySem.boot_len (pa_cons (pv 6) pa_nil))) (fun _ _ => rfl))))))))))))))), ?_⟩
  fail "st"
  fail "lit"
  have hl' : l.length ≤ 1000 := by omega
  fail "go"
  refine ⟨c, 51, rfl, by omega, fun m1 hm1 => ?_⟩
  generalize (m1 : Int) % ((l.length : Int) + 1) = at_
  fail "go"
  refine ⟨c, 52, rfl, by omega, fun m2 hm2 => ?_⟩
  fail "go"
  obtain ⟨k2, e2, h2⟩ := emod_nat (m2 : Int) (n := 13) (by decide)
  rw [show (m2 : Int) % 13 = (k2 : Int) from e2]
  obtain ⟨sg, hs1, hs2⟩ : ∃ sg, ([32, 59, 48, 45, 43, 46, 120, 121, 122, 107, 57, 10, 65] : List Nat)[k2]? = some sg ∧ sg < 128 := by
    refine ⟨_, List.getElem?_eq_getElem h2, ?_⟩
    have : ∀ c ∈ ([32, 59, 48, 45, 43, 46, 120, 121, 122, 107, 57, 10, 65] : List Nat), c < 128 := by decide
    exact this _ (List.getElem_mem _)
  refine st_ixS (by decide) (atI_nat hs1) ?_
  fail "go"
  refine ⟨c, 53, rfl, by omega, fun m3 hm3 => ?_⟩
  fail "go"
  rename_i k3 e3 hk3
  refine .inl ⟨(k3 : Int), rfl, by omega, ?_⟩
  have hd3 := ac_dec (k := k3) (by omega)
  generalize dec (k3 : Int) = kk at hd3 ⊢
  have hkk := hd3.1
  have al : Ac 300 l := ⟨hl, hasc⟩
  have as : Ac 1 [sg] := ⟨Nat.le_refl _, fun c hc => by rw [List.mem_singleton.1 hc]; exact hs2⟩
  fail "go"
  refine .inl ⟨(n : Int), rfl, by omega, ?_⟩
  have hdn := ac_dec (k := n) (by omega)
  generalize dec (n : Int) = nn at hdn ⊢
  have hnn := hdn.1
  fail "go"
  refine ⟨c, 54, rfl, by omega, fun m4 hm4 => ?_⟩
  fail "go"
  refine' st_i ?c1 ?h1
  case c1 =>
    simp only [List.length_append, List.length_cons, List.length_nil]
    decide
  fail "go"
  refine st_ixAny (m := m4) (SqL.of upd_same) (by simp only [List.length_append, List.length_cons, List.length_nil]; decide) (R := fun v H9 => NoStr K H9 v ∨ ∃ l, v = T l ∧ Tx l) ?_ (fun v hv => q v _ (by fail "sm") hv)
  · intro v hv
    simp only [List.mem_append, List.mem_cons, List.not_mem_nil, or_false] at hv
    rcases hv with ((((((( rfl | rfl | rfl) | (rfl | rfl)) | (rfl | rfl | rfl | rfl)) | rfl) | (rfl | rfl | rfl)) | rfl) | (rfl | rfl | rfl | rfl | rfl | rfl)) | rfl
    all_goals first
      | exact .inl (.inl rfl)
      | exact .inl (.inr (.inl ⟨_, rfl⟩))
      | exact .inr ⟨_, rfl, by omega, by assumption⟩
      | (refine .inr ⟨_, rfl, ?_⟩
         apply Ac.tx
         repeat (first | exact al | exact as | exact hd3 | exact hdn | exact ac_rep hn (by decide) | (apply Ac.cut) | (apply Ac.app) | exact ⟨Nat.le_refl _, by decide⟩)
         all_goals decide)
      | (refine .inl (.inr (.inr ⟨_, [T l], rfl, ?_⟩)); fail "la")
theorem ok_law {f : Addr} {fd : FuncData} (F : Fun K "law" "law" s_law f fd) (c__law_spoilt : Cal P w K mg base CX0 2 "_law_spoilt" ["_law_text_here", "_law_draw", "_law_n"] (sp__law_spoilt K)) (c__law_read : Cal P w K mg base CX0 3 "_law_read" ["_law_text_here", "_law_n"] (sp__law_read K)) (c__law_told : Cal P w K mg base CX0 8 "_law_told" ["_law_text_here", "_law_n"] (sp__law_told K)) (c__law_cell_at : Cal P w K mg base CX0 1 "_law_cell_at" ["_law_script", "_law_k"] (sp__law_cell_at K)) (c__law_text : Cal P w K mg base CX0 4 "_law_text" ["_law_draw", "_law_n"] (sp__law_text K)) (b_len : mg "len" = none) (b_isinstance : mg "isinstance" = none) (b_str : mg "str" = none) (c_show_work : Cal P w K mg base CX0 5 "show_work" ["work", "n"] (sp_show_work K)) (b_list : mg "list" = none) : FnOk P w K mg base CX0 9 f fd ["_law_script"] (sp_law K) := by
  refine F.ok sc_law (fun vs H Q E h => ?_) (fun cdv A outer s H vs Q E hr h => ?_)
  · obtain ⟨_, _, rfl, _⟩ := h
    rfl
  obtain ⟨a, ns, rfl, ha, hns, q⟩ := h
  refine ⟨_, (pss_cons (ps_set (i := 1) sc_law.nd rfl (Or.inr rfl) (pe_op (op_add) pe_int (pe_op (op_mod) (pe_fn c__law_cell_at hr pass0 (pa_cons (pv 0) (pa_cons pe_int pa_nil))) pe_int)))
      (pss_cons (ps_set (i := 2) sc_law.nd rfl (Or.inl rfl) (pe_bm PySem.F.plainAttrs_str PySem.F.slot_str_join PySem.F.type_str_join mt_joinG pe_str (pa_cons (pe_compS (sc := defScope s_law) ["_law_script", "_law_n", "_law_text_here", "?3", "_law_bad", "_law_due", "_law_found"] ["_law_script", "_law_n", "_law_text_here", "_law_draw", "_law_bad", "_law_due", "_law_found"] rfl rfl ⟨rfl, by decide +kernel, rfl, by decide +kernel, by decide +kernel, by decide +kernel, by decide +kernel⟩ (by show ("_law_draw" : Str) ∉ (["_law_script", "_law_n", "_law_text_here", "?3", "_law_bad", "_law_due", "_law_found"] : List Str); decide +kernel) (by show (".0" : Str) ∉ (["_law_script", "_law_n", "_law_text_here", "?3", "_law_bad", "_law_due", "_law_found"] : List Str); decide +kernel) (by decide +kernel) rfl (by decide +kernel) rfl (pi_list (pe_slice (sl_list) (pv 0) (po_some pe_int) (po_some pe_int))) (fun _ _ _ _ => pif_nil) (fun _ _ _ _ => (pe_fn c__law_text hr pass0 (pa_cons (pv 0) (pa_cons (pv 2) pa_nil))))) pa_nil)))
      (pss_cons (ps_for PassesOwn.never rfl (pi_list (pe_op (op_cat) (pe_slice (sl_list) (pv 0) (po_some pe_int) (po_some pe_int)) (pe_lst (pa_cons (pe_callB (call_lenQ) rfl b_len PySem.boot_len (pa_cons (pv 2) pa_nil)) pa_nil)))) (pg_name (i := 3) sc_law.nd rfl (Or.inl rfl)) (pss_cons (ps_set (i := 4) sc_law.nd rfl (Or.inl rfl) (pe_fn c__law_spoilt hr pass0 (pa_cons (pv 2) (pa_cons (pv 3) (pa_cons (pv 1) pa_nil)))))
      (pss_cons (ps_set (i := 5) sc_law.nd rfl (Or.inl rfl) (pe_fn c__law_read hr pass0 (pa_cons (pv 4) (pa_cons (pv 1) pa_nil))))
      (pss_cons (ps_set (i := 6) sc_law.nd rfl (Or.inl rfl) (pe_fn c__law_told hr pass0 (pa_cons (pv 4) (pa_cons (pv 1) pa_nil))))
      (pss_cons (ps_if (PW.pt (pw_and (pt_cmpR (op_isN) (pv 5) pe_non (nomark _)) (pw_and1 (pt_not (pt_val (pe_isB rfl b_isinstance (pv 6) b_str boot_str)))))) (pss_one (ps_ret pe_bl)) pss_nil)
      (pss_cons (ps_if (PW.pt (pw_and (pt_cmpR (op_notN) (pv 5) pe_non (nomark _)) (pw_and1 (PW.pt (pw_or (pt_not (pt_val (pe_isB rfl b_isinstance (pv 6) b_list boot_list))) (pw_or1 (pt_cmpR (op_neD (hu_of64 hr)) (pv 6) (pv 5) (nomark _)))))))) (pss_one (ps_ret pe_bl)) pss_nil)
      (pss_one (ps_if (PW.pt (pw_and (pt_cmpR (op_notN) (pv 5) pe_non (nomark _)) (pw_and1 (pt_cmpR (op_ne) (pe_fn c_show_work hr pass0 (pa_cons (pv 6) (pa_cons (pv 1) pa_nil))) (pv 4) (nomark _))))) (pss_one (ps_ret pe_bl)) pss_nil))))))))
      (pss_one (ps_ret (pe_cmpR (op_eqD (hu_of64 hr)) (pe_fn c__law_told hr pass0 (pa_cons pe_str (pa_cons (pv 1) pa_nil))) (pe_lst pa_nil) (nomark _))))))), ?_⟩
  fail "st"
  fail "lit"
  fail "go"
  refine ⟨a, 0, ns, rfl, ha, fun c0 => ?_⟩
  fail "go"
  obtain ⟨m0, em0, hm0⟩ := emod_nat c0 (n := 40) (by decide)
  rw [show (1 : Int) + c0 % 40 = ((1 + m0 : Nat) : Int) from by rw [show c0 % 40 = (m0 : Int) from em0]; push_cast; rfl]
  generalize hn0 : 1 + m0 = n
  have h1 : 1 ≤ n := by omega
  have hn : n ≤ 40 := by omega
  refine st_cpE ?_
  fail "go"
  rename_i p1 hp1
  obtain ⟨ms, ems, lms⟩ := cut_intsG ns 2 8
  rw [show cutV (ns.map V.int) (some 2) (some 8) = ms.map V.int from ems]
  refine st_cpAt (SqL.of upd_same) (fun i ys H' => Same (upd H p1 (.lst (ms.map V.int))) H' ∧ ∃ ss : List Sx, ys = (ss.map (Sx.tx n)).map T ∧ (∀ s ∈ ss, Sx.Ok n s) ∧ ss.length = i) (by rw [List.length_map]; omega) ⟨Same.refl _, [], rfl, fun _ z => (nomatch z), rfl⟩ ?_ ?_ ?_ ?_
  · rintro i ys H' ⟨_, ss, rfl, _, e⟩
    rw [List.length_map, List.length_map, e]
    exact Nat.le_refl _
  · rintro i ys H' ⟨hS, _⟩
    exact hS.seq (SqL.of upd_same)
  · rintro i x ys H' hx ⟨hS, ss, rfl, hok, e⟩
    obtain ⟨c, rfl⟩ := int_get hx
    fail "go"
    refine ⟨c, n, rfl, h1, hn, fun s H3 hS3 ok3 => ?_⟩
    refine ⟨hS.trans hS3, ss ++ [s], by rw [List.map_append, List.map_append]; rfl, fun d' hd' => ?_, by rw [List.length_append, e]; rfl⟩
    rcases List.mem_append.mp hd' with z | z
    · exact hok d' z
    · cases List.mem_singleton.mp z
      exact ok3
  · rintro ys H' ⟨hS, ss, rfl, hok, e⟩ pw hpw
    rw [List.length_map] at e
    have lss : ss.length ≤ 6 := by omega
    have hS2 := ((same_new hp1 (.lst (ms.map V.int))).trans hS).trans (same_new hpw (.lst ((ss.map (Sx.tx n)).map T)))
    fail "go"
    refine st_joinG (ls := ss.map (Sx.tx n)) (SqL.of upd_same) (by decide) (by rw [List.length_map]; omega) (fun l hl => ?_) ?_
    · obtain ⟨s, hs, rfl⟩ := List.mem_map.1 hl
      have := (tx_len (hok s hs) hn).1
      omega
    have dl : (inter [59, 32] (ss.map (Sx.tx n))).length ≤ 300 := by
      have hb : ∀ l ∈ ss.map (Sx.tx n), l.length ≤ 45 := fun l hl => by
        obtain ⟨t, ht, rfl⟩ := List.mem_map.1 hl
        exact (tx_len (hok t ht) hn).1
      have hlen := inter_len (s := [59, 32]) hb
      rw [List.length_map, show (45 + [59, 32].length) = 47 from rfl] at hlen
      have : ss.length * 47 ≤ 6 * 47 := Nat.mul_le_mul_right _ lss
      omega
    have da : ∀ c ∈ inter [59, 32] (ss.map (Sx.tx n)), c < 128 := fun c hc => by
      rcases inter_mem hc with h | ⟨l, hl, h⟩
      · revert h
        simp only [List.mem_cons, List.not_mem_nil, or_false]
        omega
      · obtain ⟨t, ht, rfl⟩ := List.mem_map.1 hl
        exact tx_asc (hok t ht) hn c h
    generalize upd H' pw (.lst ((ss.map (Sx.tx n)).map T)) = G at hS2 ⊢
    generalize inter [59, 32] (ss.map (Sx.tx n)) = l at dl da ⊢
    have dl' : l.length ≤ 1000 := by omega
    have haG := hS2.seq ha
    fail "go"
    refine st_forE ?_
    fail "go"
    rename_i p2 hp2 p3 hp3
    obtain ⟨ms2, ems2, lms2⟩ := cut_intsG ns 1 9
    rw [show cutV (ns.map V.int) (some 1) (some 9) = ms2.map V.int from ems2] at hp3 ⊢
    refine st_cat (same_new hp3 _ _ _ upd_same) upd_same (by rw [List.length_map]; show _ + 1 ≤ 1000; omega) fun p4 hp4 => ?_
    rw [show ms2.map V.int ++ [V.int (l.length : Int)] = (ms2 ++ [(l.length : Int)]).map V.int by rw [List.map_append]; rfl] at *
    have S4 := ((hS2.trans (same_new hp2 (.lst (ms2.map V.int)))).trans (same_new hp3 (.lst [V.int (l.length : Int)]))).trans (same_new hp4 (.lst ((ms2 ++ [(l.length : Int)]).map V.int)))
    have f4 : (upd (upd (upd G p2 (.lst (ms2.map V.int))) p3 (.lst [V.int (l.length : Int)])) p4 (.lst ((ms2 ++ [(l.length : Int)]).map V.int))) p4 = some (.lst ((ms2 ++ [(l.length : Int)]).map V.int)) := upd_same
    generalize upd (upd (upd G p2 (.lst (ms2.map V.int))) p3 (.lst [V.int (l.length : Int)])) p4 (.lst ((ms2 ++ [(l.length : Int)]).map V.int)) = G4 at S4 f4 ⊢
    refine st_forAt (SqL.of f4) (fun i σ H' => ∃ u1 u2 u3 u4 : Option V, σ = [some (.ref a), some (.int n), some (T l), u1, u2, u3, u4] ∧ Same G4 H') ⟨_, _, _, _, rfl, Same.refl _⟩ ?_ ?_ ?_
    · rintro i σ H' _ ⟨u1, u2, u3, u4, _, hS⟩
      exact SqL.of (hS _ _ f4)
    · rintro i x σ H' hx ⟨u1, u2, u3, u4, rfl, hS⟩
      obtain ⟨c, rfl⟩ := int_get hx
      fail "go"
      refine ⟨l, c, n, rfl, by omega, hn, dl, da, fun v H5 S5 hv => ?_⟩
      fail "go"
      refine ⟨v, n, rfl, h1, hn, ?_⟩
      have nul : ∀ H6, Same H5 H6 → (Tw.NoStr K H6 v ∨ ∃ l, v = T l ∧ Tx l ∧ ¬ ∃ ss, Rds n l ss) → True := fun _ _ _ => trivial
      rcases hv with ns | ⟨l', rfl, tx⟩
      · refine .inl ⟨ns, fun H6 S6 => ?_⟩
        fail "go"
        refine ⟨v, n, rfl, h1, hn, .inl ⟨ns.same S6, fun H7 S7 => ?_⟩⟩
        fail "go"
        refine isN (b := true) nn_t ?_
        fail "go"
        refine isNn (b := false) (by rw [nn_t]; rfl) ?_
        fail "go"
        refine isNn (b := false) (by rw [nn_t]; rfl) ?_
        fail "go"
        exact ⟨_, _, _, _, rfl, ((hS.trans S5).trans S6).trans S7⟩
      · by_cases hr : ∃ ss, Rds n l' ss
        · refine .inr ⟨l', rfl, tx, fun ss' p as H6 S6 rd hp hA => ?_, fun no => (no hr).elim⟩
          fail "go"
          refine ⟨_, n, rfl, h1, hn, .inr ⟨l', rfl, tx, fun ss2 p' as' H7 S7 rd' hp' hA' => ?_, fun no => (no hr).elim⟩⟩
          have := rd.uniq hn rd'
          subst this
          have hpl : as'.length ≤ 901 := by
            rw [hA'.len]
            rcases rd with ⟨_, rfl⟩ | ⟨_, h⟩
            · exact Nat.zero_le _
            · rw [← h.len]
              have := spl_len l' [59, 32] (by decide)
              have := tx.1
              omega
          have hA7 := hA.mono fun a d (x : Sa H6 a d) => S7 _ _ x
          fail "go"
          refine isN (b := false) (nn_f _) ?_
          fail "go"
          refine isNn (b := true) (by rw [nn_f]; rfl) ?_
          fail "go"
          refine st_neS (SqL.of hp') (SqL.of (S7 _ _ hp)) hA' hA7 ?_
          fail "go"
          refine isNn (b := true) (by rw [nn_f]; rfl) ?_
          fail "go"
          refine ⟨p', n, as', ss', rfl, hp', hpl, hn, hA', rd.ok, fun H8 S8 => ?_⟩
          rw [rd.text]
          fail "go"
          rw [decide_eq_true rfl]
          fail "go"
          exact ⟨_, _, _, _, rfl, (((hS.trans S5).trans S6).trans S7).trans S8⟩
        · refine .inr ⟨l', rfl, tx, fun ss' _ _ _ _ rd => (hr ⟨ss', rd⟩).elim, fun _ H6 S6 => ?_⟩
          fail "go"
          refine ⟨_, n, rfl, h1, hn, .inr ⟨l', rfl, tx, fun ss' _ _ _ _ rd => (hr ⟨ss', rd⟩).elim, fun _ H7 S7 => ?_⟩⟩
          fail "go"
          refine isN (b := true) nn_t ?_
          fail "go"
          refine isNn (b := false) (by rw [nn_t]; rfl) ?_
          fail "go"
          refine isNn (b := false) (by rw [nn_t]; rfl) ?_
          fail "go"
          exact ⟨_, _, _, _, rfl, ((hS.trans S5).trans S6).trans S7⟩
    · rintro σ H' ⟨u1, u2, u3, u4, rfl, hS⟩
      fail "go"
      refine ⟨_, n, rfl, h1, hn, .inr ⟨[], rfl, ⟨Nat.zero_le _, fun _ z => (nomatch z)⟩, fun ss' p as H6 S6 rd hp hA => ?_, fun no => (no ⟨[], .inl ⟨rfl, rfl⟩⟩).elim⟩⟩
      have : ss' = [] := rd.uniq hn (.inl ⟨rfl, rfl⟩)
      subst this
      cases hA
      fail "go"
      rename_i p9 hp9
      refine st_eqNil (SqL.of (same_new hp9 _ _ _ hp)) (SqL.of upd_same) ?_
      exact q _
end
theorem all_mk {l : PySem.W.OpenLaw} {w : World} {K : PySem.W.Frag} {h : Heap} {mg : Str → Option Value} {fa f0 f1 f2 f3 f4 f5 f6 f7 f8 f9 f10 f11 f12 f13 f14 f15 f16 f17 f18 f19 f20 f21 f22 f23 f24 f25 f26 f27 f28 f29 f30 f31 f32 f33 f34 f35 f36 f37 f38 : Addr} {od0 an0 od1 an1 od2 an2 od3 an3 od4 an4 od5 an5 od6 an6 od7 an7 od8 an8 od9 an9 od10 an10 od11 an11 od12 an12 od13 an13 od14 an14 od15 an15 od16 an16 od17 an17 od18 an18 od19 an19 od20 an20 od21 an21 od22 an22 od23 an23 od24 an24 od25 an25 od26 an26 od27 an27 od28 an28 od29 an29 od30 an30 od31 an31 od32 an32 od33 an33 od34 an34 od35 an35 od36 an36 od37 an37 od38 an38 : Option Addr} {sl0 sl1 sl2 sl3 sl4 sl5 sl6 sl7 sl8 sl9 sl10 sl11 sl12 sl13 sl14 sl15 sl16 sl17 sl18 sl19 sl20 sl21 sl22 sl23 sl24 sl25 sl26 sl27 sl28 sl29 sl30 sl31 sl32 sl33 sl34 sl35 sl36 sl37 sl38 : Array (Option Value)} {oc0 kV0 dc0 pm0 ct0 cd0 oc1 kV1 dc1 pm1 ct1 cd1 oc2 kV2 dc2 pm2 ct2 cd2 oc3 kV3 dc3 pm3 ct3 cd3 oc4 kV4 dc4 pm4 ct4 cd4 oc5 kV5 dc5 pm5 ct5 cd5 oc6 kV6 dc6 pm6 ct6 cd6 oc7 kV7 dc7 pm7 ct7 cd7 oc8 kV8 dc8 pm8 ct8 cd8 oc9 kV9 dc9 pm9 ct9 cd9 oc10 kV10 dc10 pm10 ct10 cd10 oc11 kV11 dc11 pm11 ct11 cd11 oc12 kV12 dc12 pm12 ct12 cd12 oc13 kV13 dc13 pm13 ct13 cd13 oc14 kV14 dc14 pm14 ct14 cd14 oc15 kV15 dc15 pm15 ct15 cd15 oc16 kV16 dc16 pm16 ct16 cd16 oc17 kV17 dc17 pm17 ct17 cd17 oc18 kV18 dc18 pm18 ct18 cd18 oc19 kV19 dc19 pm19 ct19 cd19 oc20 kV20 dc20 pm20 ct20 cd20 oc21 kV21 dc21 pm21 ct21 cd21 oc22 kV22 dc22 pm22 ct22 cd22 oc23 kV23 dc23 pm23 ct23 cd23 oc24 kV24 dc24 pm24 ct24 cd24 oc25 kV25 dc25 pm25 ct25 cd25 oc26 kV26 dc26 pm26 ct26 cd26 oc27 kV27 dc27 pm27 ct27 cd27 oc28 kV28 dc28 pm28 ct28 cd28 oc29 kV29 dc29 pm29 ct29 cd29 oc30 kV30 dc30 pm30 ct30 cd30 oc31 kV31 dc31 pm31 ct31 cd31 oc32 kV32 dc32 pm32 ct32 cd32 oc33 kV33 dc33 pm33 ct33 cd33 oc34 kV34 dc34 pm34 ct34 cd34 oc35 kV35 dc35 pm35 ct35 cd35 oc36 kV36 dc36 pm36 ct36 cd36 oc37 kV37 dc37 pm37 ct37 cd37 oc38 kV38 dc38 pm38 ct38 cd38 : Value} {t_MOST_WIRES t_SIGNS t_XS t_ZS t_MOST_FIGURES t_FIGURES t_MINUS : Tok} {C_Over C_Quarter C_Back C_Both C_Where C_Swap C_Deed A_WIRES_BEHIND : Addr} {C_NoText C_NoDeed C_NoWire C_WireError C_NoRow : Addr} (KX : K.In h) (G : h.Ns mainGlobals mg) (hfa : mg "law" = some (.ref fa))
    (v_Over : PySem.W.nsIn K mainGlobals "Over" = some (some (.ref C_Over)))
    (v_Quarter : PySem.W.nsIn K mainGlobals "Quarter" = some (some (.ref C_Quarter)))
    (v_Back : PySem.W.nsIn K mainGlobals "Back" = some (some (.ref C_Back)))
    (v_Both : PySem.W.nsIn K mainGlobals "Both" = some (some (.ref C_Both)))
    (v_Where : PySem.W.nsIn K mainGlobals "Where" = some (some (.ref C_Where)))
    (v_Swap : PySem.W.nsIn K mainGlobals "Swap" = some (some (.ref C_Swap)))
    (v_Deed : PySem.W.nsIn K mainGlobals "Deed" = some (some (.ref C_Deed)))
    (mt_Deed___init__ : PySem.W.findIn K (.ref C_Deed) "__init__" = some (some (.ref f11)))
    (if_11 : PySem.W.isFn K (.ref f11) = true)
    (mt_Swap___init__ : PySem.W.findIn K (.ref C_Swap) "__init__" = some (some (.ref f12)))
    (if_12 : PySem.W.isFn K (.ref f12) = true)
    (mt_Over___init__ : PySem.W.findIn K (.ref C_Over) "__init__" = some (some (.ref f13)))
    (if_13 : PySem.W.isFn K (.ref f13) = true)
    (mt_Quarter___init__ : PySem.W.findIn K (.ref C_Quarter) "__init__" = some (some (.ref f14)))
    (if_14 : PySem.W.isFn K (.ref f14) = true)
    (mt_Back___init__ : PySem.W.findIn K (.ref C_Back) "__init__" = some (some (.ref f15)))
    (if_15 : PySem.W.isFn K (.ref f15) = true)
    (mt_Both___init__ : PySem.W.findIn K (.ref C_Both) "__init__" = some (some (.ref f16)))
    (if_16 : PySem.W.isFn K (.ref f16) = true)
    (mt_Where___init__ : PySem.W.findIn K (.ref C_Where) "__init__" = some (some (.ref f17)))
    (if_17 : PySem.W.isFn K (.ref f17) = true)
    (mt_Over_wires : PySem.W.findIn K (.ref C_Over) "wires" = some (some (.ref f10)))
    (if_10 : PySem.W.isFn K (.ref f10) = true)
    (mt_Quarter_wires : PySem.W.findIn K (.ref C_Quarter) "wires" = some (some (.ref f10)))
    (mt_Back_wires : PySem.W.findIn K (.ref C_Back) "wires" = some (some (.ref f10)))
    (mt_Both_wires : PySem.W.findIn K (.ref C_Both) "wires" = some (some (.ref f10)))
    (mt_Where_wires : PySem.W.findIn K (.ref C_Where) "wires" = some (some (.ref f10)))
    (mt_Swap_wires : PySem.W.findIn K (.ref C_Swap) "wires" = some (some (.ref f10)))
    (a0 : PySem.W.nsIn K mainGlobals "_law_mixed" = some (some (.ref f0)))
    (l0 : K.lookup f0 = some ⟨oc0, od0, .func (PySem.W.fnOf "_law_mixed" "_law_mixed" (defArgs s__law_mixed) (defBody s__law_mixed) (defScope s__law_mixed) .none kV0 dc0 pm0 an0 cd0 ct0), sl0⟩)
    (q0 : PySem.W.codeIn K cd0 "_law_mixed" = true)
    (k0 : PySem.W.keepIn K (.ref f0) = true)
    (a1 : PySem.W.nsIn K mainGlobals "_law_spoilt" = some (some (.ref f1)))
    (l1 : K.lookup f1 = some ⟨oc1, od1, .func (PySem.W.fnOf "_law_spoilt" "_law_spoilt" (defArgs s__law_spoilt) (defBody s__law_spoilt) (defScope s__law_spoilt) .none kV1 dc1 pm1 an1 cd1 ct1), sl1⟩)
    (q1 : PySem.W.codeIn K cd1 "_law_spoilt" = true)
    (k1 : PySem.W.keepIn K (.ref f1) = true)
    (a2 : PySem.W.nsIn K mainGlobals "_law_number" = some (some (.ref f2)))
    (l2 : K.lookup f2 = some ⟨oc2, od2, .func (PySem.W.fnOf "_law_number" "_law_number" (defArgs s__law_number) (defBody s__law_number) (defScope s__law_number) .none kV2 dc2 pm2 an2 cd2 ct2), sl2⟩)
    (q2 : PySem.W.codeIn K cd2 "_law_number" = true)
    (k2 : PySem.W.keepIn K (.ref f2) = true)
    (a3 : PySem.W.nsIn K mainGlobals "_law_read_one" = some (some (.ref f3)))
    (l3 : K.lookup f3 = some ⟨oc3, od3, .func (PySem.W.fnOf "_law_read_one" "_law_read_one" (defArgs s__law_read_one) (defBody s__law_read_one) (defScope s__law_read_one) .none kV3 dc3 pm3 an3 cd3 ct3), sl3⟩)
    (q3 : PySem.W.codeIn K cd3 "_law_read_one" = true)
    (k3 : PySem.W.keepIn K (.ref f3) = true)
    (a4 : PySem.W.nsIn K mainGlobals "_law_read" = some (some (.ref f4)))
    (l4 : K.lookup f4 = some ⟨oc4, od4, .func (PySem.W.fnOf "_law_read" "_law_read" (defArgs s__law_read) (defBody s__law_read) (defScope s__law_read) .none kV4 dc4 pm4 an4 cd4 ct4), sl4⟩)
    (q4 : PySem.W.codeIn K cd4 "_law_read" = true)
    (k4 : PySem.W.keepIn K (.ref f4) = true)
    (a5 : PySem.W.nsIn K mainGlobals "row_of" = some (some (.ref f5)))
    (l5 : K.lookup f5 = some ⟨oc5, od5, .func (PySem.W.fnOf "row_of" "row_of" (defArgs s_row_of) (defBody s_row_of) (defScope s_row_of) .none kV5 dc5 pm5 an5 cd5 ct5), sl5⟩)
    (q5 : PySem.W.codeIn K cd5 "row_of" = true)
    (k5 : PySem.W.keepIn K (.ref f5) = true)
    (a6 : PySem.W.nsIn K mainGlobals "read_row" = some (some (.ref f6)))
    (l6 : K.lookup f6 = some ⟨oc6, od6, .func (PySem.W.fnOf "read_row" "read_row" (defArgs s_read_row) (defBody s_read_row) (defScope s_read_row) .none kV6 dc6 pm6 an6 cd6 ct6), sl6⟩)
    (q6 : PySem.W.codeIn K cd6 "read_row" = true)
    (k6 : PySem.W.keepIn K (.ref f6) = true)
    (a7 : PySem.W.nsIn K mainGlobals "ones" = some (some (.ref f7)))
    (l7 : K.lookup f7 = some ⟨oc7, od7, .func (PySem.W.fnOf "ones" "ones" (defArgs s_ones) (defBody s_ones) (defScope s_ones) .none kV7 dc7 pm7 an7 cd7 ct7), sl7⟩)
    (q7 : PySem.W.codeIn K cd7 "ones" = true)
    (k7 : PySem.W.keepIn K (.ref f7) = true)
    (a8 : PySem.W.nsIn K mainGlobals "weight_of" = some (some (.ref f8)))
    (l8 : K.lookup f8 = some ⟨oc8, od8, .func (PySem.W.fnOf "weight_of" "weight_of" (defArgs s_weight_of) (defBody s_weight_of) (defScope s_weight_of) .none kV8 dc8 pm8 an8 cd8 ct8), sl8⟩)
    (q8 : PySem.W.codeIn K cd8 "weight_of" = true)
    (k8 : PySem.W.keepIn K (.ref f8) = true)
    (a9 : PySem.W.nsIn K mainGlobals "read_look" = some (some (.ref f9)))
    (l9 : K.lookup f9 = some ⟨oc9, od9, .func (PySem.W.fnOf "read_look" "read_look" (defArgs s_read_look) (defBody s_read_look) (defScope s_read_look) .none kV9 dc9 pm9 an9 cd9 ct9), sl9⟩)
    (q9 : PySem.W.codeIn K cd9 "read_look" = true)
    (k9 : PySem.W.keepIn K (.ref f9) = true)
    (l10 : K.lookup f10 = some ⟨oc10, od10, .func (PySem.W.fnOf "wires" "Deed.wires" (defArgs s_Deed_wires) (defBody s_Deed_wires) (defScope s_Deed_wires) .none kV10 dc10 pm10 an10 cd10 ct10), sl10⟩)
    (q10 : PySem.W.codeIn K cd10 "Deed.wires" = true)
    (k10 : PySem.W.keepIn K (.ref f10) = true)
    (l11 : K.lookup f11 = some ⟨oc11, od11, .func (PySem.W.fnOf "__init__" "Deed.__init__" (defArgs s_Deed___init__) (defBody s_Deed___init__) (defScope s_Deed___init__) .none kV11 dc11 pm11 an11 cd11 ct11), sl11⟩)
    (q11 : PySem.W.codeIn K cd11 "Deed.__init__" = true)
    (k11 : PySem.W.keepIn K (.ref f11) = true)
    (l12 : K.lookup f12 = some ⟨oc12, od12, .func (PySem.W.fnOf "__init__" "Swap.__init__" (defArgs s_Swap___init__) (defBody s_Swap___init__) (defScope s_Swap___init__) .none kV12 dc12 pm12 an12 cd12 ct12), sl12⟩)
    (q12 : PySem.W.codeIn K cd12 "Swap.__init__" = true)
    (k12 : PySem.W.keepIn K (.ref f12) = true)
    (l13 : K.lookup f13 = some ⟨oc13, od13, .func (PySem.W.fnOf "__init__" "Over.__init__" (defArgs s_Over___init__) (defBody s_Over___init__) (defScope s_Over___init__) .none kV13 dc13 pm13 an13 cd13 ct13), sl13⟩)
    (q13 : PySem.W.codeIn K cd13 "Over.__init__" = true)
    (k13 : PySem.W.keepIn K (.ref f13) = true)
    (l14 : K.lookup f14 = some ⟨oc14, od14, .func (PySem.W.fnOf "__init__" "Quarter.__init__" (defArgs s_Quarter___init__) (defBody s_Quarter___init__) (defScope s_Quarter___init__) .none kV14 dc14 pm14 an14 cd14 ct14), sl14⟩)
    (q14 : PySem.W.codeIn K cd14 "Quarter.__init__" = true)
    (k14 : PySem.W.keepIn K (.ref f14) = true)
    (l15 : K.lookup f15 = some ⟨oc15, od15, .func (PySem.W.fnOf "__init__" "Back.__init__" (defArgs s_Back___init__) (defBody s_Back___init__) (defScope s_Back___init__) .none kV15 dc15 pm15 an15 cd15 ct15), sl15⟩)
    (q15 : PySem.W.codeIn K cd15 "Back.__init__" = true)
    (k15 : PySem.W.keepIn K (.ref f15) = true)
    (l16 : K.lookup f16 = some ⟨oc16, od16, .func (PySem.W.fnOf "__init__" "Both.__init__" (defArgs s_Both___init__) (defBody s_Both___init__) (defScope s_Both___init__) .none kV16 dc16 pm16 an16 cd16 ct16), sl16⟩)
    (q16 : PySem.W.codeIn K cd16 "Both.__init__" = true)
    (k16 : PySem.W.keepIn K (.ref f16) = true)
    (l17 : K.lookup f17 = some ⟨oc17, od17, .func (PySem.W.fnOf "__init__" "Where.__init__" (defArgs s_Where___init__) (defBody s_Where___init__) (defScope s_Where___init__) .none kV17 dc17 pm17 an17 cd17 ct17), sl17⟩)
    (q17 : PySem.W.codeIn K cd17 "Where.__init__" = true)
    (k17 : PySem.W.keepIn K (.ref f17) = true)
    (a18 : PySem.W.nsIn K mainGlobals "is_whole_number" = some (some (.ref f18)))
    (l18 : K.lookup f18 = some ⟨oc18, od18, .func (PySem.W.fnOf "is_whole_number" "is_whole_number" (defArgs s_is_whole_number) (defBody s_is_whole_number) (defScope s_is_whole_number) .none kV18 dc18 pm18 an18 cd18 ct18), sl18⟩)
    (q18 : PySem.W.codeIn K cd18 "is_whole_number" = true)
    (k18 : PySem.W.keepIn K (.ref f18) = true)
    (a19 : PySem.W.nsIn K mainGlobals "check_words" = some (some (.ref f19)))
    (l19 : K.lookup f19 = some ⟨oc19, od19, .func (PySem.W.fnOf "check_words" "check_words" (defArgs s_check_words) (defBody s_check_words) (defScope s_check_words) .none kV19 dc19 pm19 an19 cd19 ct19), sl19⟩)
    (q19 : PySem.W.codeIn K cd19 "check_words" = true)
    (k19 : PySem.W.keepIn K (.ref f19) = true)
    (a20 : PySem.W.nsIn K mainGlobals "deed_of_words" = some (some (.ref f20)))
    (l20 : K.lookup f20 = some ⟨oc20, od20, .func (PySem.W.fnOf "deed_of_words" "deed_of_words" (defArgs s_deed_of_words) (defBody s_deed_of_words) (defScope s_deed_of_words) .none kV20 dc20 pm20 an20 cd20 ct20), sl20⟩)
    (q20 : PySem.W.codeIn K cd20 "deed_of_words" = true)
    (k20 : PySem.W.keepIn K (.ref f20) = true)
    (a21 : PySem.W.nsIn K mainGlobals "deed_of" = some (some (.ref f21)))
    (l21 : K.lookup f21 = some ⟨oc21, od21, .func (PySem.W.fnOf "deed_of" "deed_of" (defArgs s_deed_of) (defBody s_deed_of) (defScope s_deed_of) .none kV21 dc21 pm21 an21 cd21 ct21), sl21⟩)
    (q21 : PySem.W.codeIn K cd21 "deed_of" = true)
    (k21 : PySem.W.keepIn K (.ref f21) = true)
    (a22 : PySem.W.nsIn K mainGlobals "read_number" = some (some (.ref f22)))
    (l22 : K.lookup f22 = some ⟨oc22, od22, .func (PySem.W.fnOf "read_number" "read_number" (defArgs s_read_number) (defBody s_read_number) (defScope s_read_number) .none kV22 dc22 pm22 an22 cd22 ct22), sl22⟩)
    (q22 : PySem.W.codeIn K cd22 "read_number" = true)
    (k22 : PySem.W.keepIn K (.ref f22) = true)
    (a23 : PySem.W.nsIn K mainGlobals "read_step" = some (some (.ref f23)))
    (l23 : K.lookup f23 = some ⟨oc23, od23, .func (PySem.W.fnOf "read_step" "read_step" (defArgs s_read_step) (defBody s_read_step) (defScope s_read_step) .none kV23 dc23 pm23 an23 cd23 ct23), sl23⟩)
    (q23 : PySem.W.codeIn K cd23 "read_step" = true)
    (k23 : PySem.W.keepIn K (.ref f23) = true)
    (a24 : PySem.W.nsIn K mainGlobals "read_work" = some (some (.ref f24)))
    (l24 : K.lookup f24 = some ⟨oc24, od24, .func (PySem.W.fnOf "read_work" "read_work" (defArgs s_read_work) (defBody s_read_work) (defScope s_read_work) .none kV24 dc24 pm24 an24 cd24 ct24), sl24⟩)
    (q24 : PySem.W.codeIn K cd24 "read_work" = true)
    (k24 : PySem.W.keepIn K (.ref f24) = true)
    (a25 : PySem.W.nsIn K mainGlobals "_law_told" = some (some (.ref f25)))
    (l25 : K.lookup f25 = some ⟨oc25, od25, .func (PySem.W.fnOf "_law_told" "_law_told" (defArgs s__law_told) (defBody s__law_told) (defScope s__law_told) .none kV25 dc25 pm25 an25 cd25 ct25), sl25⟩)
    (q25 : PySem.W.codeIn K cd25 "_law_told" = true)
    (k25 : PySem.W.keepIn K (.ref f25) = true)
    (a26 : PySem.W.nsIn K mainGlobals "_law_cell_at" = some (some (.ref f26)))
    (l26 : K.lookup f26 = some ⟨oc26, od26, .func (PySem.W.fnOf "_law_cell_at" "_law_cell_at" (defArgs s__law_cell_at) (defBody s__law_cell_at) (defScope s__law_cell_at) .none kV26 dc26 pm26 an26 cd26 ct26), sl26⟩)
    (q26 : PySem.W.codeIn K cd26 "_law_cell_at" = true)
    (k26 : PySem.W.keepIn K (.ref f26) = true)
    (a27 : PySem.W.nsIn K mainGlobals "_law_bits" = some (some (.ref f27)))
    (l27 : K.lookup f27 = some ⟨oc27, od27, .func (PySem.W.fnOf "_law_bits" "_law_bits" (defArgs s__law_bits) (defBody s__law_bits) (defScope s__law_bits) .none kV27 dc27 pm27 an27 cd27 ct27), sl27⟩)
    (q27 : PySem.W.codeIn K cd27 "_law_bits" = true)
    (k27 : PySem.W.keepIn K (.ref f27) = true)
    (a28 : PySem.W.nsIn K mainGlobals "_law_signs" = some (some (.ref f28)))
    (l28 : K.lookup f28 = some ⟨oc28, od28, .func (PySem.W.fnOf "_law_signs" "_law_signs" (defArgs s__law_signs) (defBody s__law_signs) (defScope s__law_signs) .none kV28 dc28 pm28 an28 cd28 ct28), sl28⟩)
    (q28 : PySem.W.codeIn K cd28 "_law_signs" = true)
    (k28 : PySem.W.keepIn K (.ref f28) = true)
    (a29 : PySem.W.nsIn K mainGlobals "_law_words" = some (some (.ref f29)))
    (l29 : K.lookup f29 = some ⟨oc29, od29, .func (PySem.W.fnOf "_law_words" "_law_words" (defArgs s__law_words) (defBody s__law_words) (defScope s__law_words) .none kV29 dc29 pm29 an29 cd29 ct29), sl29⟩)
    (q29 : PySem.W.codeIn K cd29 "_law_words" = true)
    (k29 : PySem.W.keepIn K (.ref f29) = true)
    (a30 : PySem.W.nsIn K mainGlobals "_law_text" = some (some (.ref f30)))
    (l30 : K.lookup f30 = some ⟨oc30, od30, .func (PySem.W.fnOf "_law_text" "_law_text" (defArgs s__law_text) (defBody s__law_text) (defScope s__law_text) .none kV30 dc30 pm30 an30 cd30 ct30), sl30⟩)
    (q30 : PySem.W.codeIn K cd30 "_law_text" = true)
    (k30 : PySem.W.keepIn K (.ref f30) = true)
    (a31 : PySem.W.nsIn K mainGlobals "is_look" = some (some (.ref f31)))
    (l31 : K.lookup f31 = some ⟨oc31, od31, .func (PySem.W.fnOf "is_look" "is_look" (defArgs s_is_look) (defBody s_is_look) (defScope s_is_look) .none kV31 dc31 pm31 an31 cd31 ct31), sl31⟩)
    (q31 : PySem.W.codeIn K cd31 "is_look" = true)
    (k31 : PySem.W.keepIn K (.ref f31) = true)
    (a32 : PySem.W.nsIn K mainGlobals "bit_at" = some (some (.ref f32)))
    (l32 : K.lookup f32 = some ⟨oc32, od32, .func (PySem.W.fnOf "bit_at" "bit_at" (defArgs s_bit_at) (defBody s_bit_at) (defScope s_bit_at) .none kV32 dc32 pm32 an32 cd32 ct32), sl32⟩)
    (q32 : PySem.W.codeIn K cd32 "bit_at" = true)
    (k32 : PySem.W.keepIn K (.ref f32) = true)
    (a33 : PySem.W.nsIn K mainGlobals "sign_at" = some (some (.ref f33)))
    (l33 : K.lookup f33 = some ⟨oc33, od33, .func (PySem.W.fnOf "sign_at" "sign_at" (defArgs s_sign_at) (defBody s_sign_at) (defScope s_sign_at) .none kV33 dc33 pm33 an33 cd33 ct33), sl33⟩)
    (q33 : PySem.W.codeIn K cd33 "sign_at" = true)
    (k33 : PySem.W.keepIn K (.ref f33) = true)
    (a34 : PySem.W.nsIn K mainGlobals "letters_of" = some (some (.ref f34)))
    (l34 : K.lookup f34 = some ⟨oc34, od34, .func (PySem.W.fnOf "letters_of" "letters_of" (defArgs s_letters_of) (defBody s_letters_of) (defScope s_letters_of) .none kV34 dc34 pm34 an34 cd34 ct34), sl34⟩)
    (q34 : PySem.W.codeIn K cd34 "letters_of" = true)
    (k34 : PySem.W.keepIn K (.ref f34) = true)
    (a35 : PySem.W.nsIn K mainGlobals "look_row" = some (some (.ref f35)))
    (l35 : K.lookup f35 = some ⟨oc35, od35, .func (PySem.W.fnOf "look_row" "look_row" (defArgs s_look_row) (defBody s_look_row) (defScope s_look_row) .none kV35 dc35 pm35 an35 cd35 ct35), sl35⟩)
    (q35 : PySem.W.codeIn K cd35 "look_row" = true)
    (k35 : PySem.W.keepIn K (.ref f35) = true)
    (a36 : PySem.W.nsIn K mainGlobals "show_step" = some (some (.ref f36)))
    (l36 : K.lookup f36 = some ⟨oc36, od36, .func (PySem.W.fnOf "show_step" "show_step" (defArgs s_show_step) (defBody s_show_step) (defScope s_show_step) .none kV36 dc36 pm36 an36 cd36 ct36), sl36⟩)
    (q36 : PySem.W.codeIn K cd36 "show_step" = true)
    (k36 : PySem.W.keepIn K (.ref f36) = true)
    (a37 : PySem.W.nsIn K mainGlobals "show_work" = some (some (.ref f37)))
    (l37 : K.lookup f37 = some ⟨oc37, od37, .func (PySem.W.fnOf "show_work" "show_work" (defArgs s_show_work) (defBody s_show_work) (defScope s_show_work) .none kV37 dc37 pm37 an37 cd37 ct37), sl37⟩)
    (q37 : PySem.W.codeIn K cd37 "show_work" = true)
    (k37 : PySem.W.keepIn K (.ref f37) = true)
    (a38 : PySem.W.nsIn K mainGlobals "law" = some (some (.ref f38)))
    (l38 : K.lookup f38 = some ⟨oc38, od38, .func (PySem.W.fnOf "law" "law" (defArgs s_law) (defBody s_law) (defScope s_law) .none kV38 dc38 pm38 an38 cd38 ct38), sl38⟩)
    (q38 : PySem.W.codeIn K cd38 "law" = true)
    (k38 : PySem.W.keepIn K (.ref f38) = true)
    (v_MOST_WIRES : PySem.W.nsIn K mainGlobals "MOST_WIRES" = some (some (Value.int 40 t_MOST_WIRES)))
    (v_SIGNS : PySem.W.nsIn K mainGlobals "SIGNS" = some (some (Value.str ".xzy" t_SIGNS)))
    (v_XS : PySem.W.nsIn K mainGlobals "XS" = some (some (Value.int 1 t_XS)))
    (v_ZS : PySem.W.nsIn K mainGlobals "ZS" = some (some (Value.int 2 t_ZS)))
    (v_WIRES_BEHIND : PySem.W.nsIn K mainGlobals "WIRES_BEHIND" = some (some (.ref A_WIRES_BEHIND)))
    (tb_WIRES_BEHIND : PyProof.Rows.KTD.tabLook (PyProof.Rows.KTD.datLooks fun b => K.lookup b) (fun b => K.lookup b) A_WIRES_BEHIND (([("over", 1), ("quarter", 1), ("back", 1), ("both", 1), ("where", 2), ("swap", 2)] : List (Str × Int)).map fun p => (p.1, PyProof.Rows.KTD.Dat.flat (.int p.2))) = true)
    (v_MOST_FIGURES : PySem.W.nsIn K mainGlobals "MOST_FIGURES" = some (some (Value.int 60 t_MOST_FIGURES)))
    (v_FIGURES : PySem.W.nsIn K mainGlobals "FIGURES" = some (some (Value.str "0123456789" t_FIGURES)))
    (v_MINUS : PySem.W.nsIn K mainGlobals "MINUS" = some (some (Value.int 0 t_MINUS)))
    (v_NoText : PySem.W.nsIn K mainGlobals "NoText" = some (some (.ref C_NoText))) (x_NoText : PySem.W.excIn K C_NoText bmVE "ValueError.__new__" = true) (ga_NoText : PySem.W.findIn K (.ref C_NoText) "__getattribute__" = some (some (.builtin "BaseException.__getattribute__"))) (gt_NoText : PySem.W.findIn K (.ref C_NoText) "__getattr__" = some none) (ca_NoText : PySem.W.findIn K (.ref C_NoText) "__class__" = some (some (.builtin "object.__class__"))) (cg_NoText : PySem.W.specialIn K (.builtin "object.__class__") "__get__" = some (some (.builtin "getset_descriptor.__get__"))) (tk_NoText : PySem.W.takesIn K (.builtin "object.__class__") = some true) (mo_NoText : PySem.W.mroIn K C_NoText (.type "object") = some true) (mb_NoText : PySem.W.mroIn K C_NoText (.type "BaseException") = some true)
    (v_NoDeed : PySem.W.nsIn K mainGlobals "NoDeed" = some (some (.ref C_NoDeed))) (x_NoDeed : PySem.W.excIn K C_NoDeed bmVE "ValueError.__new__" = true) (ga_NoDeed : PySem.W.findIn K (.ref C_NoDeed) "__getattribute__" = some (some (.builtin "BaseException.__getattribute__"))) (gt_NoDeed : PySem.W.findIn K (.ref C_NoDeed) "__getattr__" = some none) (ca_NoDeed : PySem.W.findIn K (.ref C_NoDeed) "__class__" = some (some (.builtin "object.__class__"))) (cg_NoDeed : PySem.W.specialIn K (.builtin "object.__class__") "__get__" = some (some (.builtin "getset_descriptor.__get__"))) (tk_NoDeed : PySem.W.takesIn K (.builtin "object.__class__") = some true) (mo_NoDeed : PySem.W.mroIn K C_NoDeed (.type "object") = some true) (mb_NoDeed : PySem.W.mroIn K C_NoDeed (.type "BaseException") = some true)
    (v_NoWire : PySem.W.nsIn K mainGlobals "NoWire" = some (some (.ref C_NoWire))) (x_NoWire : PySem.W.excIn K C_NoWire bmVE "ValueError.__new__" = true) (ga_NoWire : PySem.W.findIn K (.ref C_NoWire) "__getattribute__" = some (some (.builtin "BaseException.__getattribute__"))) (gt_NoWire : PySem.W.findIn K (.ref C_NoWire) "__getattr__" = some none) (ca_NoWire : PySem.W.findIn K (.ref C_NoWire) "__class__" = some (some (.builtin "object.__class__"))) (cg_NoWire : PySem.W.specialIn K (.builtin "object.__class__") "__get__" = some (some (.builtin "getset_descriptor.__get__"))) (tk_NoWire : PySem.W.takesIn K (.builtin "object.__class__") = some true) (mo_NoWire : PySem.W.mroIn K C_NoWire (.type "object") = some true) (mb_NoWire : PySem.W.mroIn K C_NoWire (.type "BaseException") = some true)
    (v_WireError : PySem.W.nsIn K mainGlobals "WireError" = some (some (.ref C_WireError))) (x_WireError : PySem.W.excIn K C_WireError bmVE "ValueError.__new__" = true) (ga_WireError : PySem.W.findIn K (.ref C_WireError) "__getattribute__" = some (some (.builtin "BaseException.__getattribute__"))) (gt_WireError : PySem.W.findIn K (.ref C_WireError) "__getattr__" = some none) (ca_WireError : PySem.W.findIn K (.ref C_WireError) "__class__" = some (some (.builtin "object.__class__"))) (cg_WireError : PySem.W.specialIn K (.builtin "object.__class__") "__get__" = some (some (.builtin "getset_descriptor.__get__"))) (tk_WireError : PySem.W.takesIn K (.builtin "object.__class__") = some true) (mo_WireError : PySem.W.mroIn K C_WireError (.type "object") = some true) (mb_WireError : PySem.W.mroIn K C_WireError (.type "BaseException") = some true)
    (v_NoRow : PySem.W.nsIn K mainGlobals "NoRow" = some (some (.ref C_NoRow))) (x_NoRow : PySem.W.excIn K C_NoRow bmVE "ValueError.__new__" = true) (ga_NoRow : PySem.W.findIn K (.ref C_NoRow) "__getattribute__" = some (some (.builtin "BaseException.__getattribute__"))) (gt_NoRow : PySem.W.findIn K (.ref C_NoRow) "__getattr__" = some none) (ca_NoRow : PySem.W.findIn K (.ref C_NoRow) "__class__" = some (some (.builtin "object.__class__"))) (cg_NoRow : PySem.W.specialIn K (.builtin "object.__class__") "__get__" = some (some (.builtin "getset_descriptor.__get__"))) (tk_NoRow : PySem.W.takesIn K (.builtin "object.__class__") = some true) (mo_NoRow : PySem.W.mroIn K C_NoRow (.type "object") = some true) (mb_NoRow : PySem.W.mroIn K C_NoRow (.type "BaseException") = some true)
    (kt_NoText_NoText : PySem.W.kitOne K (.ref C_NoText) (.ref C_NoText) = some true)
    (kt_NoText_NoRow : PySem.W.kitOne K (.ref C_NoText) (.ref C_NoRow) = some false)
    (kt_NoText_NoDeed : PySem.W.kitOne K (.ref C_NoText) (.ref C_NoDeed) = some false)
    (kt_NoText_NoWire : PySem.W.kitOne K (.ref C_NoText) (.ref C_NoWire) = some false)
    (em_NoText_WireError : PySem.W.exmOne K (.ref C_NoText) (.ref C_WireError) = some true)
    (em_NoDeed_NoDeed : PySem.W.exmOne K (.ref C_NoDeed) (.ref C_NoDeed) = some true)
    (em_NoDeed_NoWire : PySem.W.exmOne K (.ref C_NoDeed) (.ref C_NoWire) = some false)
    (em_NoWire_NoDeed : PySem.W.exmOne K (.ref C_NoWire) (.ref C_NoDeed) = some false)
    (em_NoWire_NoWire : PySem.W.exmOne K (.ref C_NoWire) (.ref C_NoWire) = some true)
    (pg_Over : PySem.W.plainGet K C_Over Str.empty = true)
    (hd_Over : PySem.W.hasDictIn K C_Over = true)
    (po_Over : PySem.W.plainOver K C_Over = true)
    (sa_Over : PySem.W.findIn K (.ref C_Over) "__setattr__" = some (some (.builtin "object.__setattr__")))
    (mk_Over : PySem.W.makesIn K C_Over = true)
    (kc_Over : PySem.W.keepIn K (.ref C_Over) = true)
    (na_Over_word : PySem.W.findIn K (.ref C_Over) "word" = some none)
    (na_Over_undoer : PySem.W.findIn K (.ref C_Over) "undoer" = some none)
    (na_Over_at : PySem.W.findIn K (.ref C_Over) "at" = some none)
    (pg_Quarter : PySem.W.plainGet K C_Quarter Str.empty = true)
    (hd_Quarter : PySem.W.hasDictIn K C_Quarter = true)
    (po_Quarter : PySem.W.plainOver K C_Quarter = true)
    (sa_Quarter : PySem.W.findIn K (.ref C_Quarter) "__setattr__" = some (some (.builtin "object.__setattr__")))
    (mk_Quarter : PySem.W.makesIn K C_Quarter = true)
    (kc_Quarter : PySem.W.keepIn K (.ref C_Quarter) = true)
    (na_Quarter_word : PySem.W.findIn K (.ref C_Quarter) "word" = some none)
    (na_Quarter_undoer : PySem.W.findIn K (.ref C_Quarter) "undoer" = some none)
    (na_Quarter_at : PySem.W.findIn K (.ref C_Quarter) "at" = some none)
    (pg_Back : PySem.W.plainGet K C_Back Str.empty = true)
    (hd_Back : PySem.W.hasDictIn K C_Back = true)
    (po_Back : PySem.W.plainOver K C_Back = true)
    (sa_Back : PySem.W.findIn K (.ref C_Back) "__setattr__" = some (some (.builtin "object.__setattr__")))
    (mk_Back : PySem.W.makesIn K C_Back = true)
    (kc_Back : PySem.W.keepIn K (.ref C_Back) = true)
    (na_Back_word : PySem.W.findIn K (.ref C_Back) "word" = some none)
    (na_Back_undoer : PySem.W.findIn K (.ref C_Back) "undoer" = some none)
    (na_Back_at : PySem.W.findIn K (.ref C_Back) "at" = some none)
    (pg_Both : PySem.W.plainGet K C_Both Str.empty = true)
    (hd_Both : PySem.W.hasDictIn K C_Both = true)
    (po_Both : PySem.W.plainOver K C_Both = true)
    (sa_Both : PySem.W.findIn K (.ref C_Both) "__setattr__" = some (some (.builtin "object.__setattr__")))
    (mk_Both : PySem.W.makesIn K C_Both = true)
    (kc_Both : PySem.W.keepIn K (.ref C_Both) = true)
    (na_Both_word : PySem.W.findIn K (.ref C_Both) "word" = some none)
    (na_Both_undoer : PySem.W.findIn K (.ref C_Both) "undoer" = some none)
    (na_Both_at : PySem.W.findIn K (.ref C_Both) "at" = some none)
    (pg_Where : PySem.W.plainGet K C_Where Str.empty = true)
    (hd_Where : PySem.W.hasDictIn K C_Where = true)
    (po_Where : PySem.W.plainOver K C_Where = true)
    (sa_Where : PySem.W.findIn K (.ref C_Where) "__setattr__" = some (some (.builtin "object.__setattr__")))
    (mk_Where : PySem.W.makesIn K C_Where = true)
    (kc_Where : PySem.W.keepIn K (.ref C_Where) = true)
    (na_Where_word : PySem.W.findIn K (.ref C_Where) "word" = some none)
    (na_Where_undoer : PySem.W.findIn K (.ref C_Where) "undoer" = some none)
    (na_Where_at : PySem.W.findIn K (.ref C_Where) "at" = some none)
    (pg_Swap : PySem.W.plainGet K C_Swap Str.empty = true)
    (hd_Swap : PySem.W.hasDictIn K C_Swap = true)
    (po_Swap : PySem.W.plainOver K C_Swap = true)
    (sa_Swap : PySem.W.findIn K (.ref C_Swap) "__setattr__" = some (some (.builtin "object.__setattr__")))
    (mk_Swap : PySem.W.makesIn K C_Swap = true)
    (kc_Swap : PySem.W.keepIn K (.ref C_Swap) = true)
    (na_Swap_word : PySem.W.findIn K (.ref C_Swap) "word" = some none)
    (na_Swap_undoer : PySem.W.findIn K (.ref C_Swap) "undoer" = some none)
    (na_Swap_at : PySem.W.findIn K (.ref C_Swap) "at" = some none)
    (cg_Deed___init__ : PySem.W.specialIn K (.ref C_Deed) "__getattribute__" = some (some (.builtin "type.__getattribute__")))
    (cr_Deed___init__ : PySem.W.readsIn K C_Deed (.type "type") = true)
    (ce_Deed___init__ : PySem.W.findCls K (.ref C_Deed) (.type "type") "__init__" = some (.val (.ref f11)))
    (z_str : PySem.W.nsIn K mainGlobals "str" = some none)
    (z_len : PySem.W.nsIn K mainGlobals "len" = some none)
    (z_int : PySem.W.nsIn K mainGlobals "int" = some none)
    (z_sum : PySem.W.nsIn K mainGlobals "sum" = some none)
    (z_range : PySem.W.nsIn K mainGlobals "range" = some none)
    (z_isinstance : PySem.W.nsIn K mainGlobals "isinstance" = some none)
    (z_enumerate : PySem.W.nsIn K mainGlobals "enumerate" = some none)
    (z_list : PySem.W.nsIn K mainGlobals "list" = some none)
    (z_bool : PySem.W.nsIn K mainGlobals "bool" = some none)
    (z_all : PySem.W.nsIn K mainGlobals "all" = some none)
    (z_tuple : PySem.W.nsIn K mainGlobals "tuple" = some none)
    (z_min : PySem.W.nsIn K mainGlobals "min" = some none)
    (z_max : PySem.W.nsIn K mainGlobals "max" = some none) :
    ∃ fd : FuncData, (∀ (s : Shared) (v : Value), BindsTo s fd ⟨[v], []⟩ [("_law_script", v)]) ∧ ∀ base : Heap, K.In base → base.Ns mainGlobals mg → FnOk l.prog w K mg base CX0 9 fa fd ["_law_script"] (sp_law K) := by
  have e := hfa.symm.trans (PySem.W.mg_of KX G a38)
  cases e
  have F0 := fun_mk (st := s__law_mixed) l0 q0 k0
  have b0 := F0.binds (ps := ["_law_draw", "_law_k"]) fun _ _ _ _ _ _ us hl => match us, hl with | [_, _], _ => rfl
  have F1 := fun_mk (st := s__law_spoilt) l1 q1 k1
  have b1 := F1.binds (ps := ["_law_text_here", "_law_draw", "_law_n"]) fun _ _ _ _ _ _ us hl => match us, hl with | [_, _, _], _ => rfl
  have F2 := fun_mk (st := s__law_number) l2 q2 k2
  have b2 := F2.binds (ps := ["_law_word", "_law_n"]) fun _ _ _ _ _ _ us hl => match us, hl with | [_, _], _ => rfl
  have F3 := fun_mk (st := s__law_read_one) l3 q3 k3
  have b3 := F3.binds (ps := ["_law_part", "_law_n"]) fun _ _ _ _ _ _ us hl => match us, hl with | [_, _], _ => rfl
  have F4 := fun_mk (st := s__law_read) l4 q4 k4
  have b4 := F4.binds (ps := ["_law_text_here", "_law_n"]) fun _ _ _ _ _ _ us hl => match us, hl with | [_, _], _ => rfl
  have F5 := fun_mk (st := s_row_of) l5 q5 k5
  have b5 := F5.binds (ps := ["text"]) fun _ _ _ _ _ _ us hl => match us, hl with | [_], _ => rfl
  have F6 := fun_mk (st := s_read_row) l6 q6 k6
  have b6 := F6.binds (ps := ["text", "n"]) fun _ _ _ _ _ _ us hl => match us, hl with | [_, _], _ => rfl
  have F7 := fun_mk (st := s_ones) l7 q7 k7
  have b7 := F7.binds (ps := ["number"]) fun _ _ _ _ _ _ us hl => match us, hl with | [_], _ => rfl
  have F8 := fun_mk (st := s_weight_of) l8 q8 k8
  have b8 := F8.binds (ps := ["row"]) fun _ _ _ _ _ _ us hl => match us, hl with | [_], _ => rfl
  have F9 := fun_mk (st := s_read_look) l9 q9 k9
  have b9 := F9.binds (ps := ["letters", "n"]) fun _ _ _ _ _ _ us hl => match us, hl with | [_, _], _ => rfl
  have F10 := fun_mk (st := s_Deed_wires) l10 q10 k10
  have b10 := F10.binds (ps := ["self"]) fun _ _ _ _ _ _ us hl => match us, hl with | [_], _ => rfl
  have F11 := fun_mk (st := s_Deed___init__) l11 q11 k11
  have b11 := F11.binds (ps := ["self", "word", "undoer", "at"]) fun _ _ _ _ _ _ us hl => match us, hl with | [_, _, _, _], _ => rfl
  have F12 := fun_mk (st := s_Swap___init__) l12 q12 k12
  have b12 := F12.binds (ps := ["self", "j", "k"]) fun _ _ _ _ _ _ us hl => match us, hl with | [_, _, _], _ => rfl
  have F13 := fun_mk (st := s_Over___init__) l13 q13 k13
  have b13 := F13.binds (ps := ["self", "k"]) fun _ _ _ _ _ _ us hl => match us, hl with | [_, _], _ => rfl
  have F14 := fun_mk (st := s_Quarter___init__) l14 q14 k14
  have b14 := F14.binds (ps := ["self", "k"]) fun _ _ _ _ _ _ us hl => match us, hl with | [_, _], _ => rfl
  have F15 := fun_mk (st := s_Back___init__) l15 q15 k15
  have b15 := F15.binds (ps := ["self", "k"]) fun _ _ _ _ _ _ us hl => match us, hl with | [_, _], _ => rfl
  have F16 := fun_mk (st := s_Both___init__) l16 q16 k16
  have b16 := F16.binds (ps := ["self", "k"]) fun _ _ _ _ _ _ us hl => match us, hl with | [_, _], _ => rfl
  have F17 := fun_mk (st := s_Where___init__) l17 q17 k17
  have b17 := F17.binds (ps := ["self", "j", "k"]) fun _ _ _ _ _ _ us hl => match us, hl with | [_, _, _], _ => rfl
  have F18 := fun_mk (st := s_is_whole_number) l18 q18 k18
  have b18 := F18.binds (ps := ["thing"]) fun _ _ _ _ _ _ us hl => match us, hl with | [_], _ => rfl
  have F19 := fun_mk (st := s_check_words) l19 q19 k19
  have b19 := F19.binds (ps := ["words"]) fun _ _ _ _ _ _ us hl => match us, hl with | [_], _ => rfl
  have F20 := fun_mk (st := s_deed_of_words) l20 q20 k20
  have b20 := F20.binds (ps := ["words"]) fun _ _ _ _ _ _ us hl => match us, hl with | [_], _ => rfl
  have F21 := fun_mk (st := s_deed_of) l21 q21 k21
  have b21 := F21.binds (ps := ["words", "n"]) fun _ _ _ _ _ _ us hl => match us, hl with | [_, _], _ => rfl
  have F22 := fun_mk (st := s_read_number) l22 q22 k22
  have b22 := F22.binds (ps := ["text"]) fun _ _ _ _ _ _ us hl => match us, hl with | [_], _ => rfl
  have F23 := fun_mk (st := s_read_step) l23 q23 k23
  have b23 := F23.binds (ps := ["text", "n"]) fun _ _ _ _ _ _ us hl => match us, hl with | [_, _], _ => rfl
  have F24 := fun_mk (st := s_read_work) l24 q24 k24
  have b24 := F24.binds (ps := ["text", "n"]) fun _ _ _ _ _ _ us hl => match us, hl with | [_, _], _ => rfl
  have F25 := fun_mk (st := s__law_told) l25 q25 k25
  have b25 := F25.binds (ps := ["_law_text_here", "_law_n"]) fun _ _ _ _ _ _ us hl => match us, hl with | [_, _], _ => rfl
  have F26 := fun_mk (st := s__law_cell_at) l26 q26 k26
  have b26 := F26.binds (ps := ["_law_script", "_law_k"]) fun _ _ _ _ _ _ us hl => match us, hl with | [_, _], _ => rfl
  have F27 := fun_mk (st := s__law_bits) l27 q27 k27
  have b27 := F27.binds (ps := ["_law_draw", "_law_k", "_law_n"]) fun _ _ _ _ _ _ us hl => match us, hl with | [_, _, _], _ => rfl
  have F28 := fun_mk (st := s__law_signs) l28 q28 k28
  have b28 := F28.binds (ps := ["_law_draw", "_law_n"]) fun _ _ _ _ _ _ us hl => match us, hl with | [_, _], _ => rfl
  have F29 := fun_mk (st := s__law_words) l29 q29 k29
  have b29 := F29.binds (ps := ["_law_draw", "_law_n"]) fun _ _ _ _ _ _ us hl => match us, hl with | [_, _], _ => rfl
  have F30 := fun_mk (st := s__law_text) l30 q30 k30
  have b30 := F30.binds (ps := ["_law_draw", "_law_n"]) fun _ _ _ _ _ _ us hl => match us, hl with | [_, _], _ => rfl
  have F31 := fun_mk (st := s_is_look) l31 q31 k31
  have b31 := F31.binds (ps := ["step"]) fun _ _ _ _ _ _ us hl => match us, hl with | [_], _ => rfl
  have F32 := fun_mk (st := s_bit_at) l32 q32 k32
  have b32 := F32.binds (ps := ["number", "k"]) fun _ _ _ _ _ _ us hl => match us, hl with | [_, _], _ => rfl
  have F33 := fun_mk (st := s_sign_at) l33 q33 k33
  have b33 := F33.binds (ps := ["row", "k"]) fun _ _ _ _ _ _ us hl => match us, hl with | [_, _], _ => rfl
  have F34 := fun_mk (st := s_letters_of) l34 q34 k34
  have b34 := F34.binds (ps := ["row", "n"]) fun _ _ _ _ _ _ us hl => match us, hl with | [_, _], _ => rfl
  have F35 := fun_mk (st := s_look_row) l35 q35 k35
  have b35 := F35.binds (ps := ["look"]) fun _ _ _ _ _ _ us hl => match us, hl with | [_], _ => rfl
  have F36 := fun_mk (st := s_show_step) l36 q36 k36
  have b36 := F36.binds (ps := ["step", "n"]) fun _ _ _ _ _ _ us hl => match us, hl with | [_, _], _ => rfl
  have F37 := fun_mk (st := s_show_work) l37 q37 k37
  have b37 := F37.binds (ps := ["work", "n"]) fun _ _ _ _ _ _ us hl => match us, hl with | [_, _], _ => rfl
  have F38 := fun_mk (st := s_law) l38 q38 k38
  have g_MOST_WIRES : GC mg "MOST_WIRES" (.int 40) := ⟨_, PySem.W.mg_of KX G v_MOST_WIRES, ⟨_, rfl⟩⟩
  have g_SIGNS : GC mg "SIGNS" (.str ".xzy") := ⟨_, PySem.W.mg_of KX G v_SIGNS, ⟨_, rfl⟩⟩
  have g_XS : GC mg "XS" (.int 1) := ⟨_, PySem.W.mg_of KX G v_XS, ⟨_, rfl⟩⟩
  have g_ZS : GC mg "ZS" (.int 2) := ⟨_, PySem.W.mg_of KX G v_ZS, ⟨_, rfl⟩⟩
  have g_WIRES_BEHIND : GTab K mg "WIRES_BEHIND" A_WIRES_BEHIND [("over", 1), ("quarter", 1), ("back", 1), ("both", 1), ("where", 2), ("swap", 2)] := ⟨PySem.W.mg_of KX G v_WIRES_BEHIND, tb_WIRES_BEHIND⟩
  have g_MOST_FIGURES : GC mg "MOST_FIGURES" (.int 60) := ⟨_, PySem.W.mg_of KX G v_MOST_FIGURES, ⟨_, rfl⟩⟩
  have g_FIGURES : GC mg "FIGURES" (.str "0123456789") := ⟨_, PySem.W.mg_of KX G v_FIGURES, ⟨_, rfl⟩⟩
  have g_MINUS : GC mg "MINUS" (.int 0) := ⟨_, PySem.W.mg_of KX G v_MINUS, ⟨_, rfl⟩⟩
  have c_NoText : ExcC K mg "NoText" C_NoText := ⟨PySem.W.mg_of KX G v_NoText, ⟨x_NoText, ga_NoText, gt_NoText, ca_NoText, cg_NoText, tk_NoText, mo_NoText, mb_NoText⟩⟩
  have c_NoDeed : ExcC K mg "NoDeed" C_NoDeed := ⟨PySem.W.mg_of KX G v_NoDeed, ⟨x_NoDeed, ga_NoDeed, gt_NoDeed, ca_NoDeed, cg_NoDeed, tk_NoDeed, mo_NoDeed, mb_NoDeed⟩⟩
  have c_NoWire : ExcC K mg "NoWire" C_NoWire := ⟨PySem.W.mg_of KX G v_NoWire, ⟨x_NoWire, ga_NoWire, gt_NoWire, ca_NoWire, cg_NoWire, tk_NoWire, mo_NoWire, mb_NoWire⟩⟩
  have c_WireError : ExcC K mg "WireError" C_WireError := ⟨PySem.W.mg_of KX G v_WireError, ⟨x_WireError, ga_WireError, gt_WireError, ca_WireError, cg_WireError, tk_WireError, mo_WireError, mb_WireError⟩⟩
  have c_NoRow : ExcC K mg "NoRow" C_NoRow := ⟨PySem.W.mg_of KX G v_NoRow, ⟨x_NoRow, ga_NoRow, gt_NoRow, ca_NoRow, cg_NoRow, tk_NoRow, mo_NoRow, mb_NoRow⟩⟩
  have b_str : mg "str" = none := PySem.W.mg_none_of KX G z_str
  have b_len : mg "len" = none := PySem.W.mg_none_of KX G z_len
  have b_int : mg "int" = none := PySem.W.mg_none_of KX G z_int
  have b_sum : mg "sum" = none := PySem.W.mg_none_of KX G z_sum
  have b_range : mg "range" = none := PySem.W.mg_none_of KX G z_range
  have b_isinstance : mg "isinstance" = none := PySem.W.mg_none_of KX G z_isinstance
  have b_enumerate : mg "enumerate" = none := PySem.W.mg_none_of KX G z_enumerate
  have b_list : mg "list" = none := PySem.W.mg_none_of KX G z_list
  have b_bool : mg "bool" = none := PySem.W.mg_none_of KX G z_bool
  have b_all : mg "all" = none := PySem.W.mg_none_of KX G z_all
  have b_tuple : mg "tuple" = none := PySem.W.mg_none_of KX G z_tuple
  have b_min : mg "min" = none := PySem.W.mg_none_of KX G z_min
  have b_max : mg "max" = none := PySem.W.mg_none_of KX G z_max
  have T_D : Txt_D K (CDof_D C_Over C_Quarter C_Back C_Both C_Where C_Swap) := ⟨(fun d => match d with | .over => ⟨pg_Over, hd_Over, po_Over, sa_Over⟩ | .quarter => ⟨pg_Quarter, hd_Quarter, po_Quarter, sa_Quarter⟩ | .back => ⟨pg_Back, hd_Back, po_Back, sa_Back⟩ | .both => ⟨pg_Both, hd_Both, po_Both, sa_Both⟩ | .wher => ⟨pg_Where, hd_Where, po_Where, sa_Where⟩ | .swap => ⟨pg_Swap, hd_Swap, po_Swap, sa_Swap⟩), (fun d => match d with | .over => na_Over_word | .quarter => na_Quarter_word | .back => na_Back_word | .both => na_Both_word | .wher => na_Where_word | .swap => na_Swap_word), (fun d => match d with | .over => na_Over_undoer | .quarter => na_Quarter_undoer | .back => na_Back_undoer | .both => na_Both_undoer | .wher => na_Where_undoer | .swap => na_Swap_undoer), (fun d => match d with | .over => na_Over_at | .quarter => na_Quarter_at | .back => na_Back_at | .both => na_Both_at | .wher => na_Where_at | .swap => na_Swap_at)⟩
  refine ⟨PySem.W.fnOf "law" "law" (defArgs s_law) (defBody s_law) (defScope s_law) .none kV38 dc38 pm38 an38 cd38 ct38, fun s v => .of_eq rfl, fun base KB _ => ?_⟩
  have o__law_mixed := ok__law_mixed (P := l.prog) (w := w) (mg := mg) (base := base) F0 
  have c__law_mixed : Cal l.prog w K mg base CX0 1 "_law_mixed" ["_law_draw", "_law_k"] (sp__law_mixed K) := ⟨f0, _, o__law_mixed, b0, k0, PySem.W.mg_of KX G a0⟩
  have o__law_spoilt := ok__law_spoilt (P := l.prog) (w := w) (mg := mg) (base := base) F1 b_str c__law_mixed b_len
  have o__law_number := ok__law_number (P := l.prog) (w := w) (mg := mg) (base := base) F2 b_int b_len
  have c__law_number : Cal l.prog w K mg base CX0 1 "_law_number" ["_law_word", "_law_n"] (sp__law_number K) := ⟨f2, _, o__law_number, b2, k2, PySem.W.mg_of KX G a2⟩
  have o__law_read_one := ok__law_read_one (P := l.prog) (w := w) (mg := mg) (base := base) F3 b_sum c__law_number b_len b_range
  have c__law_read_one : Cal l.prog w K mg base CX0 2 "_law_read_one" ["_law_part", "_law_n"] (sp__law_read_one K) := ⟨f3, _, o__law_read_one, b3, k3, PySem.W.mg_of KX G a3⟩
  have o__law_read := ok__law_read (P := l.prog) (w := w) (mg := mg) (base := base) F4 b_isinstance b_str c__law_read_one
  have o_row_of := ok_row_of (P := l.prog) (w := w) (mg := mg) (base := base) F5 b_enumerate b_isinstance b_str c_NoText b_len g_MOST_WIRES g_SIGNS
  have c_row_of : Cal l.prog w K mg base (CXE l.prog w) 1 "row_of" ["text"] (sp_row_of K C_NoText) := ⟨f5, _, o_row_of, b5, k5, PySem.W.mg_of KX G a5⟩
  have o_read_row := ok_read_row (P := l.prog) (w := w) (mg := mg) (base := base) F6 c_row_of b_len c_NoText
  have o_ones := ok_ones (P := l.prog) (w := w) (mg := mg) (base := base) F7 
  have c_ones : Cal l.prog w K mg base CX0 1 "ones" ["number"] (sp_ones K) := ⟨f7, _, o_ones, b7, k7, PySem.W.mg_of KX G a7⟩
  have o_weight_of := ok_weight_of (P := l.prog) (w := w) (mg := mg) (base := base) F8 c_ones g_XS g_ZS
  have c_read_row : Cal l.prog w K mg base (CXE l.prog w) 2 "read_row" ["text", "n"] (sp_read_row K C_NoText) := ⟨f6, _, o_read_row, b6, k6, PySem.W.mg_of KX G a6⟩
  have c_weight_of : Cal l.prog w K mg base CX0 2 "weight_of" ["row"] (sp_weight_of K) := ⟨f8, _, o_weight_of, b8, k8, PySem.W.mg_of KX G a8⟩
  have o_read_look := ok_read_look (P := l.prog) (w := w) (mg := mg) (base := base) F9 c_read_row c_weight_of c_NoText g_XS g_ZS
  have o_Deed_wires := ok_Deed_wires (P := l.prog) (w := w) (mg := mg) (base := base) (CD_D := (CDof_D C_Over C_Quarter C_Back C_Both C_Where C_Swap)) F10 T_D b_list
  have o_Deed___init__ := ok_Deed___init__ (P := l.prog) (w := w) (mg := mg) (base := base) (CD_D := (CDof_D C_Over C_Quarter C_Back C_Both C_Where C_Swap)) F11 T_D
  have cm_Deed___init__ : CCal l.prog w K mg base CX0 1 "Deed" "__init__" ["self", "word", "undoer", "at"] (sp_Deed___init__ K (CDof_D C_Over C_Quarter C_Back C_Both C_Where C_Swap)) := ⟨C_Deed, f11, _, PySem.W.mg_of KX G v_Deed, ⟨cg_Deed___init__, cr_Deed___init__, ce_Deed___init__, k11⟩, o_Deed___init__, b11⟩
  have o_Swap___init__ := ok_Swap___init__ (P := l.prog) (w := w) (mg := mg) (base := base) (CD_D := (CDof_D C_Over C_Quarter C_Back C_Both C_Where C_Swap)) F12 cm_Deed___init__
  have o_Over___init__ := ok_Over___init__ (P := l.prog) (w := w) (mg := mg) (base := base) (CD_D := (CDof_D C_Over C_Quarter C_Back C_Both C_Where C_Swap)) F13 cm_Deed___init__
  have o_Quarter___init__ := ok_Quarter___init__ (P := l.prog) (w := w) (mg := mg) (base := base) (CD_D := (CDof_D C_Over C_Quarter C_Back C_Both C_Where C_Swap)) F14 cm_Deed___init__
  have o_Back___init__ := ok_Back___init__ (P := l.prog) (w := w) (mg := mg) (base := base) (CD_D := (CDof_D C_Over C_Quarter C_Back C_Both C_Where C_Swap)) F15 cm_Deed___init__
  have o_Both___init__ := ok_Both___init__ (P := l.prog) (w := w) (mg := mg) (base := base) (CD_D := (CDof_D C_Over C_Quarter C_Back C_Both C_Where C_Swap)) F16 cm_Deed___init__
  have o_Where___init__ := ok_Where___init__ (P := l.prog) (w := w) (mg := mg) (base := base) (CD_D := (CDof_D C_Over C_Quarter C_Back C_Both C_Where C_Swap)) F17 cm_Deed___init__
  have o_is_whole_number := ok_is_whole_number (P := l.prog) (w := w) (mg := mg) (base := base) F18 b_isinstance b_int b_bool
  have c_is_whole_number : Cal l.prog w K mg base CX0 1 "is_whole_number" ["thing"] (sp_is_whole_number K) := ⟨f18, _, o_is_whole_number, b18, k18, PySem.W.mg_of KX G a18⟩
  have o_check_words := ok_check_words (P := l.prog) (w := w) (mg := mg) (base := base) F19 c_NoDeed g_WIRES_BEHIND b_len b_all b_isinstance b_tuple b_str c_is_whole_number
  have k_Swap : KCal l.prog w K mg base CX0 2 "Swap" ((CDof_D C_Over C_Quarter C_Back C_Both C_Where C_Swap) .swap) ["self", "j", "k"] (sp_Swap___init__ K (CDof_D C_Over C_Quarter C_Back C_Both C_Where C_Swap)) := ⟨f12, _, ⟨mk_Swap, mt_Swap___init__, if_12, kc_Swap⟩, o_Swap___init__, b12, PySem.W.mg_of KX G v_Swap⟩
  have k_Over : KCal l.prog w K mg base CX0 2 "Over" ((CDof_D C_Over C_Quarter C_Back C_Both C_Where C_Swap) .over) ["self", "k"] (sp_Over___init__ K (CDof_D C_Over C_Quarter C_Back C_Both C_Where C_Swap)) := ⟨f13, _, ⟨mk_Over, mt_Over___init__, if_13, kc_Over⟩, o_Over___init__, b13, PySem.W.mg_of KX G v_Over⟩
  have k_Quarter : KCal l.prog w K mg base CX0 2 "Quarter" ((CDof_D C_Over C_Quarter C_Back C_Both C_Where C_Swap) .quarter) ["self", "k"] (sp_Quarter___init__ K (CDof_D C_Over C_Quarter C_Back C_Both C_Where C_Swap)) := ⟨f14, _, ⟨mk_Quarter, mt_Quarter___init__, if_14, kc_Quarter⟩, o_Quarter___init__, b14, PySem.W.mg_of KX G v_Quarter⟩
  have k_Back : KCal l.prog w K mg base CX0 2 "Back" ((CDof_D C_Over C_Quarter C_Back C_Both C_Where C_Swap) .back) ["self", "k"] (sp_Back___init__ K (CDof_D C_Over C_Quarter C_Back C_Both C_Where C_Swap)) := ⟨f15, _, ⟨mk_Back, mt_Back___init__, if_15, kc_Back⟩, o_Back___init__, b15, PySem.W.mg_of KX G v_Back⟩
  have k_Both : KCal l.prog w K mg base CX0 2 "Both" ((CDof_D C_Over C_Quarter C_Back C_Both C_Where C_Swap) .both) ["self", "k"] (sp_Both___init__ K (CDof_D C_Over C_Quarter C_Back C_Both C_Where C_Swap)) := ⟨f16, _, ⟨mk_Both, mt_Both___init__, if_16, kc_Both⟩, o_Both___init__, b16, PySem.W.mg_of KX G v_Both⟩
  have k_Where : KCal l.prog w K mg base CX0 2 "Where" ((CDof_D C_Over C_Quarter C_Back C_Both C_Where C_Swap) .wher) ["self", "j", "k"] (sp_Where___init__ K (CDof_D C_Over C_Quarter C_Back C_Both C_Where C_Swap)) := ⟨f17, _, ⟨mk_Where, mt_Where___init__, if_17, kc_Where⟩, o_Where___init__, b17, PySem.W.mg_of KX G v_Where⟩
  have c_check_words : Cal l.prog w K mg base (CXE l.prog w) 2 "check_words" ["words"] (sp_check_words K C_NoDeed) := ⟨f19, _, o_check_words, b19, k19, PySem.W.mg_of KX G a19⟩
  have o_deed_of_words := ok_deed_of_words (P := l.prog) (w := w) (mg := mg) (base := base) (CD_D := (CDof_D C_Over C_Quarter C_Back C_Both C_Where C_Swap)) F20 k_Swap T_D k_Over k_Quarter k_Back k_Both k_Where c_check_words b_min c_NoWire
  have m_D_wires : ∀ d : DK, MCal l.prog w K mg base CX0 1 ((CDof_D C_Over C_Quarter C_Back C_Both C_Where C_Swap) d) "wires" ["self"] (sp_D_wires K (CDof_D C_Over C_Quarter C_Back C_Both C_Where C_Swap) d) := fun d => match d with | .over => ⟨T_D.cl .over, f10, _, ⟨mt_Over_wires, if_10, k10⟩, (o_Deed_wires).mono (by decide), b10⟩ | .quarter => ⟨T_D.cl .quarter, f10, _, ⟨mt_Quarter_wires, if_10, k10⟩, (o_Deed_wires).mono (by decide), b10⟩ | .back => ⟨T_D.cl .back, f10, _, ⟨mt_Back_wires, if_10, k10⟩, (o_Deed_wires).mono (by decide), b10⟩ | .both => ⟨T_D.cl .both, f10, _, ⟨mt_Both_wires, if_10, k10⟩, (o_Deed_wires).mono (by decide), b10⟩ | .wher => ⟨T_D.cl .wher, f10, _, ⟨mt_Where_wires, if_10, k10⟩, (o_Deed_wires).mono (by decide), b10⟩ | .swap => ⟨T_D.cl .swap, f10, _, ⟨mt_Swap_wires, if_10, k10⟩, (o_Deed_wires).mono (by decide), b10⟩
  have c_deed_of_words : Cal l.prog w K mg base (CXE l.prog w) 4 "deed_of_words" ["words"] (sp_deed_of_words K (CDof_D C_Over C_Quarter C_Back C_Both C_Where C_Swap) C_NoDeed C_NoWire) := ⟨f20, _, o_deed_of_words, b20, k20, PySem.W.mg_of KX G a20⟩
  have o_deed_of := ok_deed_of (P := l.prog) (w := w) (mg := mg) (base := base) (CD_D := (CDof_D C_Over C_Quarter C_Back C_Both C_Where C_Swap)) F21 m_D_wires c_deed_of_words b_max c_NoWire
  have o_read_number := ok_read_number (P := l.prog) (w := w) (mg := mg) (base := base) F22 b_int g_MOST_FIGURES c_NoText b_all b_len g_FIGURES
  have c_read_look : Cal l.prog w K mg base (CXE l.prog w) 3 "read_look" ["letters", "n"] (sp_read_look K C_NoText) := ⟨f9, _, o_read_look, b9, k9, PySem.W.mg_of KX G a9⟩
  have c_deed_of : Cal l.prog w K mg base (CXE l.prog w) 5 "deed_of" ["words", "n"] (sp_deed_of K (CDof_D C_Over C_Quarter C_Back C_Both C_Where C_Swap) C_NoDeed C_NoWire) := ⟨f21, _, o_deed_of, b21, k21, PySem.W.mg_of KX G a21⟩
  have c_read_number : Cal l.prog w K mg base (CXE l.prog w) 1 "read_number" ["text"] (sp_read_number K C_NoText) := ⟨f22, _, o_read_number, b22, k22, PySem.W.mg_of KX G a22⟩
  have o_read_step := ok_read_step (P := l.prog) (w := w) (mg := mg) (base := base) F23 b_tuple c_read_look c_deed_of c_NoDeed c_NoWire c_NoText c_read_number kt_NoText_NoText kt_NoText_NoRow kt_NoText_NoDeed kt_NoText_NoWire em_NoText_WireError em_NoDeed_NoDeed em_NoDeed_NoWire em_NoWire_NoDeed em_NoWire_NoWire
  have c_read_step : Cal l.prog w K mg base (CXE l.prog w) 6 "read_step" ["text", "n"] (sp_read_step K C_NoText) := ⟨f23, _, o_read_step, b23, k23, PySem.W.mg_of KX G a23⟩
  have o_read_work := ok_read_work (P := l.prog) (w := w) (mg := mg) (base := base) F24 b_isinstance b_str c_NoText c_read_step
  have c_read_work : Cal l.prog w K mg base (CXE l.prog w) 7 "read_work" ["text", "n"] (sp_read_work K C_NoText) := ⟨f24, _, o_read_work, b24, k24, PySem.W.mg_of KX G a24⟩
  have o__law_told := ok__law_told (P := l.prog) (w := w) (mg := mg) (base := base) F25 c_WireError c_read_work b_isinstance c_NoRow c_NoDeed c_NoWire c_NoText kt_NoText_NoText kt_NoText_NoRow kt_NoText_NoDeed kt_NoText_NoWire em_NoText_WireError em_NoDeed_NoDeed em_NoDeed_NoWire em_NoWire_NoDeed em_NoWire_NoWire
  have o__law_cell_at := ok__law_cell_at (P := l.prog) (w := w) (mg := mg) (base := base) F26 b_len
  have o__law_bits := ok__law_bits (P := l.prog) (w := w) (mg := mg) (base := base) F27 c__law_mixed
  have c__law_bits : Cal l.prog w K mg base CX0 2 "_law_bits" ["_law_draw", "_law_k", "_law_n"] (sp__law_bits K) := ⟨f27, _, o__law_bits, b27, k27, PySem.W.mg_of KX G a27⟩
  have o__law_signs := ok__law_signs (P := l.prog) (w := w) (mg := mg) (base := base) F28 c__law_bits c__law_mixed
  have o__law_words := ok__law_words (P := l.prog) (w := w) (mg := mg) (base := base) F29 c__law_mixed
  have c__law_signs : Cal l.prog w K mg base CX0 3 "_law_signs" ["_law_draw", "_law_n"] (sp__law_signs K) := ⟨f28, _, o__law_signs, b28, k28, PySem.W.mg_of KX G a28⟩
  have c__law_words : Cal l.prog w K mg base CX0 2 "_law_words" ["_law_draw", "_law_n"] (sp__law_words K) := ⟨f29, _, o__law_words, b29, k29, PySem.W.mg_of KX G a29⟩
  have o__law_text := ok__law_text (P := l.prog) (w := w) (mg := mg) (base := base) F30 c__law_signs c__law_mixed b_str c__law_words b_range
  have o_is_look := ok_is_look (P := l.prog) (w := w) (mg := mg) (base := base) F31 b_isinstance b_tuple b_len
  have o_bit_at := ok_bit_at (P := l.prog) (w := w) (mg := mg) (base := base) F32 
  have c_bit_at : Cal l.prog w K mg base CX0 1 "bit_at" ["number", "k"] (sp_bit_at K) := ⟨f32, _, o_bit_at, b32, k32, PySem.W.mg_of KX G a32⟩
  have o_sign_at := ok_sign_at (P := l.prog) (w := w) (mg := mg) (base := base) F33 g_SIGNS c_bit_at g_XS g_ZS
  have c_sign_at : Cal l.prog w K mg base CX0 2 "sign_at" ["row", "k"] (sp_sign_at K) := ⟨f33, _, o_sign_at, b33, k33, PySem.W.mg_of KX G a33⟩
  have o_letters_of := ok_letters_of (P := l.prog) (w := w) (mg := mg) (base := base) F34 g_MINUS c_sign_at b_range
  have o_look_row := ok_look_row (P := l.prog) (w := w) (mg := mg) (base := base) F35 
  have c_is_look : Cal l.prog w K mg base CX0 1 "is_look" ["step"] (sp_is_look K) := ⟨f31, _, o_is_look, b31, k31, PySem.W.mg_of KX G a31⟩
  have c_letters_of : Cal l.prog w K mg base CX0 3 "letters_of" ["row", "n"] (sp_letters_of K) := ⟨f34, _, o_letters_of, b34, k34, PySem.W.mg_of KX G a34⟩
  have c_look_row : Cal l.prog w K mg base CX0 1 "look_row" ["look"] (sp_look_row K) := ⟨f35, _, o_look_row, b35, k35, PySem.W.mg_of KX G a35⟩
  have o_show_step := ok_show_step (P := l.prog) (w := w) (mg := mg) (base := base) F36 c_is_look b_str c_letters_of c_look_row
  have c_show_step : Cal l.prog w K mg base CX0 4 "show_step" ["step", "n"] (sp_show_step K) := ⟨f36, _, o_show_step, b36, k36, PySem.W.mg_of KX G a36⟩
  have o_show_work := ok_show_work (P := l.prog) (w := w) (mg := mg) (base := base) F37 c_show_step
  have c__law_spoilt : Cal l.prog w K mg base CX0 2 "_law_spoilt" ["_law_text_here", "_law_draw", "_law_n"] (sp__law_spoilt K) := ⟨f1, _, o__law_spoilt, b1, k1, PySem.W.mg_of KX G a1⟩
  have c__law_read : Cal l.prog w K mg base CX0 3 "_law_read" ["_law_text_here", "_law_n"] (sp__law_read K) := ⟨f4, _, o__law_read, b4, k4, PySem.W.mg_of KX G a4⟩
  have c__law_told : Cal l.prog w K mg base CX0 8 "_law_told" ["_law_text_here", "_law_n"] (sp__law_told K) := ⟨f25, _, o__law_told, b25, k25, PySem.W.mg_of KX G a25⟩
  have c__law_cell_at : Cal l.prog w K mg base CX0 1 "_law_cell_at" ["_law_script", "_law_k"] (sp__law_cell_at K) := ⟨f26, _, o__law_cell_at, b26, k26, PySem.W.mg_of KX G a26⟩
  have c__law_text : Cal l.prog w K mg base CX0 4 "_law_text" ["_law_draw", "_law_n"] (sp__law_text K) := ⟨f30, _, o__law_text, b30, k30, PySem.W.mg_of KX G a30⟩
  have c_show_work : Cal l.prog w K mg base CX0 5 "show_work" ["work", "n"] (sp_show_work K) := ⟨f37, _, o_show_work, b37, k37, PySem.W.mg_of KX G a37⟩
  exact ok_law F38 c__law_spoilt c__law_read c__law_told c__law_cell_at c__law_text b_len b_isinstance b_str c_show_work b_list
theorem walk {l : PySem.W.OpenLaw} {q : Program} {loose : List Str} {XP : (Str → Option Value) → Heap → Prop} {YP : World → Heap → Prop} {d : DefRec} {K : Params → PySem.W.Frag} (hn : l.most = some 63) (hdf : d.params.defaults = [])
    (hY : ∀ (w : World) (h : Heap), YP w h → (K w.params).In h)
    (F : ∀ (w : World) (mg : Str → Option Value) (fa : Addr) (h : Heap), (K w.params).In h → h.Ns mainGlobals mg → mg d.name = some (.ref fa) →
      ∃ fd : FuncData, (∀ (s : Shared) (u : Value), BindsTo s fd ⟨[u], []⟩ [("_law_script", u)]) ∧ ∀ base : Heap, (K w.params).In base → base.Ns mainGlobals mg → FnOk l.prog w (K w.params) mg base CX0 9 fa fd ["_law_script"] (sp_law (K w.params))) :
    PySem.W.WalkO q loose XP YP l.row.toRowW d [] (fun f vs => PySem.call f vs) :=
  L2.walk_of (n := 63) (k := 9) (x := "_law_script") (CX := fun _ => CX0) (sp := fun w => sp_law (K w.params)) hn (by decide) hdf ⟨rfl, by decide, by decide⟩ hY F (fun _ _ a ns hl _ hS => ⟨a, ns, rfl, hS, hl, fun _ => rfl⟩) fun _ _ _ _ _ z => z
end Tw
open PySem PySem.W PyProof.Rows
set_option maxRecDepth 100000 in
set_option maxHeartbeats 0 in
theorem PySem.Challenge.cw_twinwires_k82_texts_of_no_work_holds : PySem.Challenge.rw_twinwires_k82_texts_of_no_work.Holds := by
  w_on; o_law
  refine Tw.holds_once Tw.run0 Tw.run1 (by kernel_rfl) (fun _ => by kernel_rfl) (by kernel_rfl) (by rfl) (by rfl) (by rfl) (by rfl) (by first | assumption | decide +kernel) (by decide +kernel) ⟨rfl, rfl, rfl, rfl, rfl, by decide +kernel⟩ ?hw ?hc
  (case hw => w_witness2)
  k_fill
  refine Tw.walk (l := PySem.Challenge.rw_twinwires_k82_texts_of_no_work) rfl rfl (fun w h Y => PySem.W.kIn_of Y) ?F
  case F =>
    intro w mg fa h KX G hmg
    refine' Tw.all_mk KX G hmg ?v_Over ?v_Quarter ?v_Back ?v_Both ?v_Where ?v_Swap ?v_Deed ?mt_Deed___init__ ?if_11 ?mt_Swap___init__ ?if_12 ?mt_Over___init__ ?if_13 ?mt_Quarter___init__ ?if_14 ?mt_Back___init__ ?if_15 ?mt_Both___init__ ?if_16 ?mt_Where___init__ ?if_17 ?mt_Over_wires ?if_10 ?mt_Quarter_wires ?mt_Back_wires ?mt_Both_wires ?mt_Where_wires ?mt_Swap_wires ?a0 ?l0 ?q0 ?k0 ?a1 ?l1 ?q1 ?k1 ?a2 ?l2 ?q2 ?k2 ?a3 ?l3 ?q3 ?k3 ?a4 ?l4 ?q4 ?k4 ?a5 ?l5 ?q5 ?k5 ?a6 ?l6 ?q6 ?k6 ?a7 ?l7 ?q7 ?k7 ?a8 ?l8 ?q8 ?k8 ?a9 ?l9 ?q9 ?k9 ?l10 ?q10 ?k10 ?l11 ?q11 ?k11 ?l12 ?q12 ?k12 ?l13 ?q13 ?k13 ?l14 ?q14 ?k14 ?l15 ?q15 ?k15 ?l16 ?q16 ?k16 ?l17 ?q17 ?k17 ?a18 ?l18 ?q18 ?k18 ?a19 ?l19 ?q19 ?k19 ?a20 ?l20 ?q20 ?k20 ?a21 ?l21 ?q21 ?k21 ?a22 ?l22 ?q22 ?k22 ?a23 ?l23 ?q23 ?k23 ?a24 ?l24 ?q24 ?k24 ?a25 ?l25 ?q25 ?k25 ?a26 ?l26 ?q26 ?k26 ?a27 ?l27 ?q27 ?k27 ?a28 ?l28 ?q28 ?k28 ?a29 ?l29 ?q29 ?k29 ?a30 ?l30 ?q30 ?k30 ?a31 ?l31 ?q31 ?k31 ?a32 ?l32 ?q32 ?k32 ?a33 ?l33 ?q33 ?k33 ?a34 ?l34 ?q34 ?k34 ?a35 ?l35 ?q35 ?k35 ?a36 ?l36 ?q36 ?k36 ?a37 ?l37 ?q37 ?k37 ?a38 ?l38 ?q38 ?k38 ?v_MOST_WIRES ?v_SIGNS ?v_XS ?v_ZS ?v_WIRES_BEHIND ?tb_WIRES_BEHIND ?v_MOST_FIGURES ?v_FIGURES ?v_MINUS ?v_NoText ?x_NoText ?ga_NoText ?gt_NoText ?ca_NoText ?cg_NoText ?tk_NoText ?mo_NoText ?mb_NoText ?v_NoDeed ?x_NoDeed ?ga_NoDeed ?gt_NoDeed ?ca_NoDeed ?cg_NoDeed ?tk_NoDeed ?mo_NoDeed ?mb_NoDeed ?v_NoWire ?x_NoWire ?ga_NoWire ?gt_NoWire ?ca_NoWire ?cg_NoWire ?tk_NoWire ?mo_NoWire ?mb_NoWire ?v_WireError ?x_WireError ?ga_WireError ?gt_WireError ?ca_WireError ?cg_WireError ?tk_WireError ?mo_WireError ?mb_WireError ?v_NoRow ?x_NoRow ?ga_NoRow ?gt_NoRow ?ca_NoRow ?cg_NoRow ?tk_NoRow ?mo_NoRow ?mb_NoRow ?kt_NoText_NoText ?kt_NoText_NoRow ?kt_NoText_NoDeed ?kt_NoText_NoWire ?em_NoText_WireError ?em_NoDeed_NoDeed ?em_NoDeed_NoWire ?em_NoWire_NoDeed ?em_NoWire_NoWire ?pg_Over ?hd_Over ?po_Over ?sa_Over ?mk_Over ?kc_Over ?na_Over_word ?na_Over_undoer ?na_Over_at ?pg_Quarter ?hd_Quarter ?po_Quarter ?sa_Quarter ?mk_Quarter ?kc_Quarter ?na_Quarter_word ?na_Quarter_undoer ?na_Quarter_at ?pg_Back ?hd_Back ?po_Back ?sa_Back ?mk_Back ?kc_Back ?na_Back_word ?na_Back_undoer ?na_Back_at ?pg_Both ?hd_Both ?po_Both ?sa_Both ?mk_Both ?kc_Both ?na_Both_word ?na_Both_undoer ?na_Both_at ?pg_Where ?hd_Where ?po_Where ?sa_Where ?mk_Where ?kc_Where ?na_Where_word ?na_Where_undoer ?na_Where_at ?pg_Swap ?hd_Swap ?po_Swap ?sa_Swap ?mk_Swap ?kc_Swap ?na_Swap_word ?na_Swap_undoer ?na_Swap_at ?cg_Deed___init__ ?cr_Deed___init__ ?ce_Deed___init__ ?z_str ?z_len ?z_int ?z_sum ?z_range ?z_isinstance ?z_enumerate ?z_list ?z_bool ?z_all ?z_tuple ?z_min ?z_max
    (case v_Over => k_is)
    (case v_Quarter => k_is)
    (case v_Back => k_is)
    (case v_Both => k_is)
    (case v_Where => k_is)
    (case v_Swap => k_is)
    (case v_Deed => k_is)
    (case mt_Deed___init__ => first | k_is | k_exc | kernel_rfl)
    (case if_11 => first | k_is | k_exc | kernel_rfl)
    (case mt_Swap___init__ => first | k_is | k_exc | kernel_rfl)
    (case if_12 => first | k_is | k_exc | kernel_rfl)
    (case mt_Over___init__ => first | k_is | k_exc | kernel_rfl)
    (case if_13 => first | k_is | k_exc | kernel_rfl)
    (case mt_Quarter___init__ => first | k_is | k_exc | kernel_rfl)
    (case if_14 => first | k_is | k_exc | kernel_rfl)
    (case mt_Back___init__ => first | k_is | k_exc | kernel_rfl)
    (case if_15 => first | k_is | k_exc | kernel_rfl)
    (case mt_Both___init__ => first | k_is | k_exc | kernel_rfl)
    (case if_16 => first | k_is | k_exc | kernel_rfl)
    (case mt_Where___init__ => first | k_is | k_exc | kernel_rfl)
    (case if_17 => first | k_is | k_exc | kernel_rfl)
    (case mt_Over_wires => first | k_is | k_exc | kernel_rfl)
    (case if_10 => first | k_is | k_exc | kernel_rfl)
    (case mt_Quarter_wires => first | k_is | k_exc | kernel_rfl)
    (case mt_Back_wires => first | k_is | k_exc | kernel_rfl)
    (case mt_Both_wires => first | k_is | k_exc | kernel_rfl)
    (case mt_Where_wires => first | k_is | k_exc | kernel_rfl)
    (case mt_Swap_wires => first | k_is | k_exc | kernel_rfl)
    (case a0 => k_is)
    (case l0 => k_is)
    (case q0 => k_is)
    (case k0 => k_is)
    (case a1 => k_is)
    (case l1 => k_is)
    (case q1 => k_is)
    (case k1 => k_is)
    (case a2 => k_is)
    (case l2 => k_is)
    (case q2 => k_is)
    (case k2 => k_is)
    (case a3 => k_is)
    (case l3 => k_is)
    (case q3 => k_is)
    (case k3 => k_is)
    (case a4 => k_is)
    (case l4 => k_is)
    (case q4 => k_is)
    (case k4 => k_is)
    (case a5 => k_is)
    (case l5 => k_is)
    (case q5 => k_is)
    (case k5 => k_is)
    (case a6 => k_is)
    (case l6 => k_is)
    (case q6 => k_is)
    (case k6 => k_is)
    (case a7 => k_is)
    (case l7 => k_is)
    (case q7 => k_is)
    (case k7 => k_is)
    (case a8 => k_is)
    (case l8 => k_is)
    (case q8 => k_is)
    (case k8 => k_is)
    (case a9 => k_is)
    (case l9 => k_is)
    (case q9 => k_is)
    (case k9 => k_is)
    (case l10 => k_is)
    (case q10 => k_is)
    (case k10 => k_is)
    (case l11 => k_is)
    (case q11 => k_is)
    (case k11 => k_is)
    (case l12 => k_is)
    (case q12 => k_is)
    (case k12 => k_is)
    (case l13 => k_is)
    (case q13 => k_is)
    (case k13 => k_is)
    (case l14 => k_is)
    (case q14 => k_is)
    (case k14 => k_is)
    (case l15 => k_is)
    (case q15 => k_is)
    (case k15 => k_is)
    (case l16 => k_is)
    (case q16 => k_is)
    (case k16 => k_is)
    (case l17 => k_is)
    (case q17 => k_is)
    (case k17 => k_is)
    (case a18 => k_is)
    (case l18 => k_is)
    (case q18 => k_is)
    (case k18 => k_is)
    (case a19 => k_is)
    (case l19 => k_is)
    (case q19 => k_is)
    (case k19 => k_is)
    (case a20 => k_is)
    (case l20 => k_is)
    (case q20 => k_is)
    (case k20 => k_is)
    (case a21 => k_is)
    (case l21 => k_is)
    (case q21 => k_is)
    (case k21 => k_is)
    (case a22 => k_is)
    (case l22 => k_is)
    (case q22 => k_is)
    (case k22 => k_is)
    (case a23 => k_is)
    (case l23 => k_is)
    (case q23 => k_is)
    (case k23 => k_is)
    (case a24 => k_is)
    (case l24 => k_is)
    (case q24 => k_is)
    (case k24 => k_is)
    (case a25 => k_is)
    (case l25 => k_is)
    (case q25 => k_is)
    (case k25 => k_is)
    (case a26 => k_is)
    (case l26 => k_is)
    (case q26 => k_is)
    (case k26 => k_is)
    (case a27 => k_is)
    (case l27 => k_is)
    (case q27 => k_is)
    (case k27 => k_is)
    (case a28 => k_is)
    (case l28 => k_is)
    (case q28 => k_is)
    (case k28 => k_is)
    (case a29 => k_is)
    (case l29 => k_is)
    (case q29 => k_is)
    (case k29 => k_is)
    (case a30 => k_is)
    (case l30 => k_is)
    (case q30 => k_is)
    (case k30 => k_is)
    (case a31 => k_is)
    (case l31 => k_is)
    (case q31 => k_is)
    (case k31 => k_is)
    (case a32 => k_is)
    (case l32 => k_is)
    (case q32 => k_is)
    (case k32 => k_is)
    (case a33 => k_is)
    (case l33 => k_is)
    (case q33 => k_is)
    (case k33 => k_is)
    (case a34 => k_is)
    (case l34 => k_is)
    (case q34 => k_is)
    (case k34 => k_is)
    (case a35 => k_is)
    (case l35 => k_is)
    (case q35 => k_is)
    (case k35 => k_is)
    (case a36 => k_is)
    (case l36 => k_is)
    (case q36 => k_is)
    (case k36 => k_is)
    (case a37 => k_is)
    (case l37 => k_is)
    (case q37 => k_is)
    (case k37 => k_is)
    (case a38 => k_is)
    (case l38 => k_is)
    (case q38 => k_is)
    (case k38 => k_is)
    (case v_MOST_WIRES => k_is)
    (case v_SIGNS => k_is)
    (case v_XS => k_is)
    (case v_ZS => k_is)
    (case v_WIRES_BEHIND => k_is)
    (case tb_WIRES_BEHIND => first | k_is | k_exc | kernel_rfl)
    (case v_MOST_FIGURES => k_is)
    (case v_FIGURES => k_is)
    (case v_MINUS => k_is)
    (case v_NoText => k_is)
    (case x_NoText => first | k_is | k_exc | kernel_rfl)
    (case ga_NoText => first | k_is | k_exc | kernel_rfl)
    (case gt_NoText => first | k_is | k_exc | kernel_rfl)
    (case ca_NoText => first | k_is | k_exc | kernel_rfl)
    (case cg_NoText => first | k_is | k_exc | kernel_rfl)
    (case tk_NoText => first | k_is | k_exc | kernel_rfl)
    (case mo_NoText => first | k_is | k_exc | kernel_rfl)
    (case mb_NoText => first | k_is | k_exc | kernel_rfl)
    (case v_NoDeed => k_is)
    (case x_NoDeed => first | k_is | k_exc | kernel_rfl)
    (case ga_NoDeed => first | k_is | k_exc | kernel_rfl)
    (case gt_NoDeed => first | k_is | k_exc | kernel_rfl)
    (case ca_NoDeed => first | k_is | k_exc | kernel_rfl)
    (case cg_NoDeed => first | k_is | k_exc | kernel_rfl)
    (case tk_NoDeed => first | k_is | k_exc | kernel_rfl)
    (case mo_NoDeed => first | k_is | k_exc | kernel_rfl)
    (case mb_NoDeed => first | k_is | k_exc | kernel_rfl)
    (case v_NoWire => k_is)
    (case x_NoWire => first | k_is | k_exc | kernel_rfl)
    (case ga_NoWire => first | k_is | k_exc | kernel_rfl)
    (case gt_NoWire => first | k_is | k_exc | kernel_rfl)
    (case ca_NoWire => first | k_is | k_exc | kernel_rfl)
    (case cg_NoWire => first | k_is | k_exc | kernel_rfl)
    (case tk_NoWire => first | k_is | k_exc | kernel_rfl)
    (case mo_NoWire => first | k_is | k_exc | kernel_rfl)
    (case mb_NoWire => first | k_is | k_exc | kernel_rfl)
    (case v_WireError => k_is)
    (case x_WireError => first | k_is | k_exc | kernel_rfl)
    (case ga_WireError => first | k_is | k_exc | kernel_rfl)
    (case gt_WireError => first | k_is | k_exc | kernel_rfl)
    (case ca_WireError => first | k_is | k_exc | kernel_rfl)
    (case cg_WireError => first | k_is | k_exc | kernel_rfl)
    (case tk_WireError => first | k_is | k_exc | kernel_rfl)
    (case mo_WireError => first | k_is | k_exc | kernel_rfl)
    (case mb_WireError => first | k_is | k_exc | kernel_rfl)
    (case v_NoRow => k_is)
    (case x_NoRow => first | k_is | k_exc | kernel_rfl)
    (case ga_NoRow => first | k_is | k_exc | kernel_rfl)
    (case gt_NoRow => first | k_is | k_exc | kernel_rfl)
    (case ca_NoRow => first | k_is | k_exc | kernel_rfl)
    (case cg_NoRow => first | k_is | k_exc | kernel_rfl)
    (case tk_NoRow => first | k_is | k_exc | kernel_rfl)
    (case mo_NoRow => first | k_is | k_exc | kernel_rfl)
    (case mb_NoRow => first | k_is | k_exc | kernel_rfl)
    (case kt_NoText_NoText => first | k_is | k_exc | kernel_rfl)
    (case kt_NoText_NoRow => first | k_is | k_exc | kernel_rfl)
    (case kt_NoText_NoDeed => first | k_is | k_exc | kernel_rfl)
    (case kt_NoText_NoWire => first | k_is | k_exc | kernel_rfl)
    (case em_NoText_WireError => first | k_is | k_exc | kernel_rfl)
    (case em_NoDeed_NoDeed => first | k_is | k_exc | kernel_rfl)
    (case em_NoDeed_NoWire => first | k_is | k_exc | kernel_rfl)
    (case em_NoWire_NoDeed => first | k_is | k_exc | kernel_rfl)
    (case em_NoWire_NoWire => first | k_is | k_exc | kernel_rfl)
    (case pg_Over => first | k_is | k_exc | kernel_rfl)
    (case hd_Over => first | k_is | k_exc | kernel_rfl)
    (case po_Over => first | k_is | k_exc | kernel_rfl)
    (case sa_Over => first | k_is | k_exc | kernel_rfl)
    (case mk_Over => first | k_is | k_exc | kernel_rfl)
    (case kc_Over => first | k_is | k_exc | kernel_rfl)
    (case na_Over_word => first | k_is | k_exc | kernel_rfl)
    (case na_Over_undoer => first | k_is | k_exc | kernel_rfl)
    (case na_Over_at => first | k_is | k_exc | kernel_rfl)
    (case pg_Quarter => first | k_is | k_exc | kernel_rfl)
    (case hd_Quarter => first | k_is | k_exc | kernel_rfl)
    (case po_Quarter => first | k_is | k_exc | kernel_rfl)
    (case sa_Quarter => first | k_is | k_exc | kernel_rfl)
    (case mk_Quarter => first | k_is | k_exc | kernel_rfl)
    (case kc_Quarter => first | k_is | k_exc | kernel_rfl)
    (case na_Quarter_word => first | k_is | k_exc | kernel_rfl)
    (case na_Quarter_undoer => first | k_is | k_exc | kernel_rfl)
    (case na_Quarter_at => first | k_is | k_exc | kernel_rfl)
    (case pg_Back => first | k_is | k_exc | kernel_rfl)
    (case hd_Back => first | k_is | k_exc | kernel_rfl)
    (case po_Back => first | k_is | k_exc | kernel_rfl)
    (case sa_Back => first | k_is | k_exc | kernel_rfl)
    (case mk_Back => first | k_is | k_exc | kernel_rfl)
    (case kc_Back => first | k_is | k_exc | kernel_rfl)
    (case na_Back_word => first | k_is | k_exc | kernel_rfl)
    (case na_Back_undoer => first | k_is | k_exc | kernel_rfl)
    (case na_Back_at => first | k_is | k_exc | kernel_rfl)
    (case pg_Both => first | k_is | k_exc | kernel_rfl)
    (case hd_Both => first | k_is | k_exc | kernel_rfl)
    (case po_Both => first | k_is | k_exc | kernel_rfl)
    (case sa_Both => first | k_is | k_exc | kernel_rfl)
    (case mk_Both => first | k_is | k_exc | kernel_rfl)
    (case kc_Both => first | k_is | k_exc | kernel_rfl)
    (case na_Both_word => first | k_is | k_exc | kernel_rfl)
    (case na_Both_undoer => first | k_is | k_exc | kernel_rfl)
    (case na_Both_at => first | k_is | k_exc | kernel_rfl)
    (case pg_Where => first | k_is | k_exc | kernel_rfl)
    (case hd_Where => first | k_is | k_exc | kernel_rfl)
    (case po_Where => first | k_is | k_exc | kernel_rfl)
    (case sa_Where => first | k_is | k_exc | kernel_rfl)
    (case mk_Where => first | k_is | k_exc | kernel_rfl)
    (case kc_Where => first | k_is | k_exc | kernel_rfl)
    (case na_Where_word => first | k_is | k_exc | kernel_rfl)
    (case na_Where_undoer => first | k_is | k_exc | kernel_rfl)
    (case na_Where_at => first | k_is | k_exc | kernel_rfl)
    (case pg_Swap => first | k_is | k_exc | kernel_rfl)
    (case hd_Swap => first | k_is | k_exc | kernel_rfl)
    (case po_Swap => first | k_is | k_exc | kernel_rfl)
    (case sa_Swap => first | k_is | k_exc | kernel_rfl)
    (case mk_Swap => first | k_is | k_exc | kernel_rfl)
    (case kc_Swap => first | k_is | k_exc | kernel_rfl)
    (case na_Swap_word => first | k_is | k_exc | kernel_rfl)
    (case na_Swap_undoer => first | k_is | k_exc | kernel_rfl)
    (case na_Swap_at => first | k_is | k_exc | kernel_rfl)
    (case cg_Deed___init__ => first | k_is | k_exc | kernel_rfl)
    (case cr_Deed___init__ => first | k_is | k_exc | kernel_rfl)
    (case ce_Deed___init__ => first | k_is | k_exc | kernel_rfl)
    (case z_str => k_is)
    (case z_len => k_is)
    (case z_int => k_is)
    (case z_sum => k_is)
    (case z_range => k_is)
    (case z_isinstance => k_is)
    (case z_enumerate => k_is)
    (case z_list => k_is)
    (case z_bool => k_is)
    (case z_all => k_is)
    (case z_tuple => k_is)
    (case z_min => k_is)
    (case z_max => k_is)
