import PyProof.Rows.All
import Wide.All
import OpenK.AllK
import Wide.FinOn
import Lean
import PyProof.EqAt
import PyProof.EqKinds
import PyProof.TupleCall
import PyProof.Logic
import Open.Pieces
import KE.KRevIter
import PyProof.EnumMake
import PyProof.IsRules
import PyProof.AutoListH
import PyProof.ConsumeWalk
import PyProof.Rows.SortWalk
import PyProof.ListStr
import PyProof.CollectIter
import PyProof.ListIndex
import PyProof.Dict
import KE.KLam
import PySem.Challenge.RW_twinwires_k38_drawers
set_option maxRecDepth 100000
namespace Tw
open PySem PySem.Calls PySem.W PyProof.Rows

/-- the top's run on the tree of the heap, in one go; the count of the tokens is reckoned at each step -/
def runG (thr ok : Thread → Bool) (go : SharedT → Thread → Option (SharedT × Thread)) : Nat → SharedT → Thread → Option SharedT
  | 0, _, _ => none
  | m + 1, a, x => match thr x with
    | true => some a
    | false => match ok x with
      | false => none
      | true => match go a x with
        | some (b, y) => (match Nat.beq b.toks b.toks with
          | true => runG thr ok go m b y
          | false => none)
        | none => none

theorem runG_top {tb : String → Option Builtin} {p : Program} {w : World} {i : Nat} {an : Option Value} : ∀ (m : Nat) (a b : SharedT) (x : Thread),
    runG through (stepOk i an) (stepT (denote tb) p w) m a x = some b → topRun tb p w i an m a.abs x = some b.abs
  | 0, _, _, _, h => by cases h
  | m + 1, a, b, x, h => by
    unfold runG at h
    unfold topRun
    cases e1 : through x with
    | true => rw [e1] at h; cases h; rfl
    | false =>
      rw [e1] at h
      cases e2 : stepOk i an x with
      | false => rw [e2] at h; cases h
      | true =>
        rw [e2] at h
        cases e3 : stepT (denote tb) p w a x with
        | none => rw [e3] at h; cases h
        | some r =>
          obtain ⟨c, y⟩ := r
          rw [e3] at h
          rw [stepT_spec e3]
          dsimp only at h ⊢
          cases e4 : Nat.beq c.toks c.toks with
          | false => rw [e4] at h; cases h
          | true => rw [e4] at h; exact runG_top m c b y h

def runT (p : Program) (w : World) (i : Nat) (an : Option Value) (m : Nat) (a : SharedT) : Option SharedT := runG through (stepOk i an) (stepT (denote treeTable) p w) m a (topStub p)
noncomputable def bootT (P : Params) : BT := ((boot_heap P).objs.toList.foldl (fun (x : BT × Nat) o => (x.1.ins x.2 o, x.2 + 1)) (BT.nil, 0)).1
noncomputable def bootS (n : Nat) (w : World) (os : OsState) : SharedT := ⟨bootT w.params, n, (boot_heap w.params).life, Array.mk [], boot_drawn, boot_toks, os⟩

noncomputable def lookT (p q : Program) (lo : List Str) (Xt : Shared → Bool) (w : World) (s : Shared) :=
  ((staticsOk (importedModules p.main.body) (boot_heap w.params) s.heap && namesBound p s.heap && gensDone s && laidKept (boot_heap w.params) s.heap), openSeen q lo (importedModules p.main.body) Xt true s)

theorem left_once {p q : Program} {lo : List Str} {Xt : Shared → Bool} {β : Type} {Yf : Shared → β} {Ya : World → β} {N M n : Nat} {an : Option Value} (row : String)
    (e : opening p = plainProg p.main.scope.names) (h6 : Nat.ble 600 N = true) (fe : ∀ s, fenceModules? p s = some s)
    (tr : ∀ P, absHeap (bootT P) n (boot_heap P).life = boot_heap P)
    (sz : ∀ P, ((boot_heap P).isNs mainGlobals, (boot_heap P).objs.size, (boot_heap P).nsMap mainGlobals "__annotations__") = (true, n, an))
    (le : Nat.ble M N = true)
    (run0 : ∀ (w : World) (os : OsState), (runT p (w.withFollow row false) n an M (bootS n (w.withFollow row false) os)).map (fun s => (lookT p q lo Xt (w.withFollow row false) s.abs, Yf s.abs)) = some ((true, openGood q lo), Ya (w.withFollow row false)))
    (run1 : ∀ (w : World) (os : OsState), (runT p (w.withFollow row true) n an M (bootS n (w.withFollow row true) os)).map (fun s => (lookT p q lo Xt (w.withFollow row true) s.abs, Yf s.abs)) = some ((true, openGood q lo), Ya (w.withFollow row true))) :
    LeftO p q lo Xt Yf Ya N true := byRow2 row (P := fun w => (openEnds treeTable p w N).map (fun s => (openSeen q lo (importedModules p.main.body) Xt true s, Yf s)) = some (openGood q lo, Ya w)) (fun w => one _ (run0 w)) (fun w => one _ (run1 w))
  where
  one (w : World) (run : ∀ os : OsState, (runT p w n an M (bootS n w os)).map (fun s => (lookT p q lo Xt w s.abs, Yf s.abs)) = some ((true, openGood q lo), Ya w)) :
      (openEnds treeTable p w N).map (fun s => (openSeen q lo (importedModules p.main.body) Xt true s, Yf s)) = some (openGood q lo, Ya w) := by
    obtain ⟨⟨h, gs, d, k, os⟩, a1, a2⟩ := Option.map_eq_some_iff.mp (boot_open e h6 fe w)
    simp only [Prod.mk.injEq] at a2
    obtain ⟨rfl, rfl, rfl, rfl⟩ := a2
    obtain ⟨b, b1, b2⟩ := Option.map_eq_some_iff.mp (run os)
    simp only [Prod.mk.injEq, lookT] at b2
    obtain ⟨⟨l1, l2⟩, l3⟩ := b2
    have r : topRun treeTable p w n an M ⟨boot_heap w.params, Array.mk [], boot_drawn, boot_toks, os⟩ (topStub p) = some b.abs := by
      have := runG_top _ _ _ _ b1
      rw [← tr w.params]
      exact this
    have r := topRun_mono (N - M) _ _ _ _ r
    rw [show M + (N - M) = N by have := Nat.le_of_ble_eq_true le; omega] at r
    have z := sz w.params
    simp only [Prod.mk.injEq] at z
    obtain ⟨z1, z2, z3⟩ := z
    have t : topFrom treeTable p w N ⟨boot_heap w.params, Array.mk [], boot_drawn, boot_toks, os⟩ = some b.abs := by
      unfold topFrom
      dsimp only
      rw [z1, z2, z3, r]
      show (match staticsOk (importedModules p.main.body) (boot_heap w.params) b.abs.heap && namesBound p b.abs.heap && gensDone b.abs && laidKept (boot_heap w.params) b.abs.heap with | true => some b.abs | false => none) = _
      rw [l1]
    unfold openEnds
    rw [a1]
    show (topFrom treeTable p w N _).map _ = _
    rw [t]
    exact congrArg some (Prod.ext l2 l3)
theorem runT_self : Tw.runT = Tw.runT := rfl
theorem lookT_self : @Tw.lookT = @Tw.lookT := rfl
end Tw
lay_quick Tw.runT Tw.lookT
name_quick runQ for Tw.runT by Tw.runT_self
name_quick lookQ for Tw.lookT by Tw.lookT_self
namespace Tw
open PySem PySem.Calls PySem.W PyProof.Rows
theorem boot_tree (P : Params) : absHeap (bootT P) 11 (boot_heap P).life = boot_heap P := by kernel_rfl
theorem boot_size (P : Params) : ((boot_heap P).isNs mainGlobals, (boot_heap P).objs.size, (boot_heap P).nsMap mainGlobals "__annotations__") = (true, 11, some (.ref 6)) := by kernel_rfl
/-- the top's run in one go, one way of the world's row: what is seen behind it -/
def RunOk (r : OpenRow) (q : Program) (lo : List Str) (lv : List (Str × WData)) (H : Hook) (N : Nat) (row : String) (b : Bool) : Prop :=
  ∀ (w : World) (os : OsState), (Fast.runQ r.prog (w.withFollow row b) 11 (some (.ref 6)) N (bootS 11 (w.withFollow row b) os)).map (fun s => (Fast.lookQ r.prog q lo (fun s => xlAt q lv s && recOk r.records s) (w.withFollow row b) s.abs, H.obs s.abs)) = some ((true, openGood q lo), H.val (w.withFollow row b))
/-- the top in one go, then the call: the law holds -/
theorem holds_once {r : OpenRow} {q : Program} {lo : List Str} {lv : List (Str × WData)} {d : DefRec} {kwd : List (Str × Expr)} {N : Nat} {H : Hook} {row : String} (run0 : RunOk r q lo lv H N row false) (run1 : RunOk r q lo lv H N row true)
    (e : opening r.prog = plainProg r.prog.main.scope.names) (fe : ∀ s, fenceModules? r.prog s = some s) (h6 : Nat.ble 600 N = true)
    (hd : defOf q r.name = some (d, kwd)) (hp : r.prog.theDef r.name = some (d.params, d.body, d.scope)) (hk : kwWritten? d.params.kwonlyargs d.params.kw_defaults = some kwd) (hwr : (!r.writes || r.records.isEmpty) = true)
    (k1 : r.wellSaid = true) (ok : (chainsOk q && opensWell r.prog && (frees r.toRowW && r.within.isEmpty)) = true) (hb : r.prog.bare) (hw : r.toRowW.promised) (hc : WalkO q lo (XL q lv) H.says r.toRowW d kwd fun f vs => PySem.call f vs) : r.Holds :=
  holds_open (Xt := fun s => xlAt q lv s && recOk r.records s) (N := N)
    (left_once (M := N) row e h6 fe boot_tree boot_size (Nat.ble_eq.mpr (Nat.le_refl N)) (by rw [Fast.runQ_eq, Fast.lookQ_eq]; exact run0) (by rw [Fast.runQ_eq, Fast.lookQ_eq]; exact run1))
    H.of H.keeps (fun s z => xl_of s (Bool.and_eq_true_iff.mp z).1) XL.keeps hd hp hk (fun s z => recFacts_of (Bool.and_eq_true_iff.mp z).2) hwr k1 ok hb hw hc
end Tw

set_option Elab.async false
set_option maxRecDepth 100000
/-! the top -/
section
open PySem PySem.W
set_option maxHeartbeats 0
local macro_rules | `(tactic| o_head $_) => `(tactic| assumption)
theorem Tw.pre : PySem.Challenge.rw_twinwires_k38_drawers.row.Holds → PySem.Challenge.rw_twinwires_k38_drawers.row.Holds := by
  intro _
  k_head
noncomputable def Tw.vw : Program := PySem.W.view PySem.Challenge.pw_twinwires_k38_drawers [0, 2, 3, 4, 5, 6, 7, 9, 10, 11, 12, 13, 15, 16, 17, 18, 19, 20, 21, 22, 23, 24, 25, 27, 28, 29, 31, 32, 34, 36, 37, 39, 41, 42, 43, 44, 45, 46]
noncomputable def Tw.hk : PySem.W.Hook := PySem.W.kmHook Tw.pre.heap_1 [2, 3, 15, 17, 18, 20, 21, 22, 24, 25, 27, 28, 29, 31, 32, 34, 35, 36, 39, 40, 41, 43, 44, 46, 47, 48, 50, 51, 53, 54, 55, 62, 63, 64, 65, 68, 75, 76, 77, 80, 87, 88, 89, 92, 99, 100, 101, 104, 111, 112, 113, 116, 119, 120, 121, 123, 124, 126, 127, 128, 130, 131, 133, 134, 135, 137, 138, 140, 141, 142, 144, 145, 147, 148, 149, 151, 152, 154, 155, 156, 158, 159, 161, 162, 163, 165, 166, 168, 169, 177, 179, 180, 182, 183, 184, 186, 187, 189, 190, 191, 193, 194, 196, 197, 198, 199, 201, 202, 204, 205, 206, 207, 208, 209, 210, 213, 215, 216, 218, 219, 220, 222, 223, 225, 226, 234, 237, 238, 239, 241, 242, 244, 245, 246, 247, 248, 249, 250, 253, 255, 256, 258, 259, 267, 269, 270, 272, 273, 274, 276, 277, 279, 280, 281, 283, 284, 286, 287, 288, 290, 291, 293, 294, 295, 297, 298, 300, 301, 302, 304, 305, 307, 308, 309, 310, 311, 312, 313, 316, 319, 320, 321, 324, 325, 326, 333, 336, 337, 338, 340, 341, 343, 344, 345, 347, 348, 350, 351, 352, 354, 355, 357, 358, 359, 362, 363, 364, 365, 366, 369, 371, 372, 374, 375, 376, 378, 379, 381, 382, 383, 385, 386, 388, 389, 390, 392, 393, 395, 396, 397, 399, 400, 402, 403, 404, 407, 408] (fun _ => by kernel_rfl) [254]
theorem Tw.run0 : Tw.RunOk PySem.Challenge.rw_twinwires_k38_drawers.row Tw.vw [] [] Tw.hk 6562 "special-get-raises" false := fun w os => by kernel_rfl
theorem Tw.run1 : Tw.RunOk PySem.Challenge.rw_twinwires_k38_drawers.row Tw.vw [] [] Tw.hk 6562 "special-get-raises" true := fun w os => by kernel_rfl
end
/-! the top ends -/

-- CHANGE: your row's module here, as the last of these rows
set_option Elab.async false
set_option linter.all false
set_option maxRecDepth 100000
/-! THE HAND LAYER, for ints, bools, texts, own classes, LISTS and tuples (index, slices, in, append, pop ..), calls, loops. Paste it whole ahead of your own text; what your proof does not reach may be deleted. -/
namespace L2
open PySem PySem.Spec PyProof.Rows

/-- a key: an int or a str -/
abbrev Key := Sum Int Str
def keyIs : Key → Value → Bool
  | .inl k, v => Value.isInt k v
  | .inr x, v => Value.isStrOf x v
def keyH (w : World) : Key → Int
  | .inl k => hashInt k
  | .inr x => hashStr w x
theorem keyIs_shape : ∀ {k : Key} {v : Value}, keyIs k v = true → (∃ i t, k = Sum.inl i ∧ v = Value.int i t) ∨ (∃ x t, k = Sum.inr x ∧ v = Value.str x t)
  | .inl i, v, h => by
    obtain ⟨t, e⟩ := Value.isInt_shape (k := i) (v := v) h
    exact .inl ⟨i, t, rfl, e⟩
  | .inr x, v, h => by
    obtain ⟨t, e⟩ := Value.isStrOf_shape (x := x) (v := v) h
    exact .inr ⟨x, t, rfl, e⟩
theorem key_ll (a b : Int) : decide ((Sum.inl a : Key) = Sum.inl b) = (a == b) := by
  by_cases e : a = b
  · subst e; simp
  · have h : ¬ (Sum.inl a : Key) = Sum.inl b := fun q => e (Sum.inl.inj q)
    rw [decide_eq_false h]
    exact (beq_eq_false_iff_ne.mpr e).symm
theorem key_rr (a b : Str) : decide ((Sum.inr a : Key) = Sum.inr b) = decide (a = b) := by
  by_cases e : a = b
  · subst e; simp
  · have h : ¬ (Sum.inr a : Key) = Sum.inr b := fun q => e (Sum.inr.inj q)
    rw [decide_eq_false h, decide_eq_false e]
theorem key_lr (a : Int) (b : Str) : decide ((Sum.inl a : Key) = Sum.inr b) = false := decide_eq_false (fun q => nomatch q)
theorem key_rl (a : Str) (b : Int) : decide ((Sum.inr a : Key) = Sum.inl b) = false := decide_eq_false (fun q => nomatch q)

def mixKind (prog : Program) (w : World) : PySem.KeyKind prog w Key where
  is := keyIs
  hash := keyH w
  inj := fun v a b ha hb => by
    rcases keyIs_shape ha with ⟨i, t, rfl, rfl⟩ | ⟨x, t, rfl, rfl⟩
    · rcases keyIs_shape hb with ⟨j, u, rfl, e⟩ | ⟨y, u, rfl, e⟩
      · injection e with e1 _; rw [e1]
      · exact nomatch e
    · rcases keyIs_shape hb with ⟨j, u, rfl, e⟩ | ⟨y, u, rfl, e⟩
      · exact nomatch e
      · injection e with e1 _; rw [e1]
  byValue := fun k v h => by
    rcases keyIs_shape h with ⟨i, t, rfl, rfl⟩ | ⟨x, t, rfl, rfl⟩ <;> rfl
  pyHash := fun hv h => by
    rcases keyIs_shape hv with ⟨i, t, rfl, rfl⟩ | ⟨x, t, rfl, rfl⟩
    · exact wpAny_pyHash_int h
    · exact wpAny_pyHash_str h
  eqBool := fun hu hv h => by
    rcases keyIs_shape hu with ⟨i, t, rfl, rfl⟩ | ⟨x, t, rfl, rfl⟩
    · rcases keyIs_shape hv with ⟨j, u, rfl, rfl⟩ | ⟨y, u, rfl, rfl⟩
      · rw [key_ll] at h; exact wpAny_eqBool_int h
      · rw [key_lr] at h; exact SeqAt.EqAt.int_str i t y u _ _ _ _ h
    · rcases keyIs_shape hv with ⟨j, u, rfl, rfl⟩ | ⟨y, u, rfl, rfl⟩
      · rw [key_rl] at h; exact SeqAt.EqAt.str_int x t j u _ _ _ _ h
      · rw [key_rr] at h; exact wpAny_eqBool_str h
  «strs» := fun k x t v h => by
    rcases keyIs_shape h with ⟨i, u, rfl, e⟩ | ⟨y, u, rfl, e⟩
    · exact nomatch e
    · injection e with e1 _
      subst e1
      cases v <;> rfl

end L2

namespace L2
open PySem PySem.Spec PyProof.Rows

/-- a value, without the heap -/
inductive V where
  | non | bl (b : Bool) | int (i : Int) | str (x : Str) | byt (b : Array UInt8) | flt (b : UInt64) | ref (a : Addr) | ty (n : String)
  deriving DecidableEq

def RelV : V → Value → Prop
  | .non, u => u = Value.none
  | .bl b, u => u = Value.bool b
  | .int i, u => ∃ t, u = Value.int i t
  | .str x, u => ∃ t, u = Value.str x t
  | .byt b, u => ∃ t, u = Value.bytes b t
  | .flt b, u => ∃ t, u = Value.float b t
  | .ref a, u => u = Value.ref a
  | .ty n, u => u = Value.type n

abbrev Vals : List V → List Value → Prop := Paired RelV
theorem Vals.length {xs : List V} {us : List Value} (r : Vals xs us) : xs.length = us.length := Paired.length r
theorem Vals.get : ∀ {xs : List V} {us : List Value} {i : Nat} {x : V}, Vals xs us → xs[i]? = some x → ∃ u, us[i]? = some u ∧ RelV x u
  | _, _, _, _, .nil, e => by simp at e
  | _, _, 0, _, .cons r _, e => by simp at e; subst e; exact ⟨_, rfl, r⟩
  | _, _, i + 1, x, .cons _ t, e => by
    obtain ⟨u, h1, h2⟩ := Vals.get (i := i) (x := x) t (by simpa using e)
    exact ⟨u, by simpa using h1, h2⟩
theorem Vals.append : ∀ {xs ys : List V} {us ws : List Value}, Vals xs us → Vals ys ws → Vals (xs ++ ys) (us ++ ws)
  | _, _, _, _, .nil, s => s
  | _, _, _, _, .cons r t, s => .cons r (Vals.append t s)
theorem Vals.take : ∀ {xs : List V} {us : List Value} (n : Nat), Vals xs us → Vals (xs.take n) (us.take n)
  | _, _, 0, _ => .nil
  | _, _, _ + 1, .nil => .nil
  | _, _, n + 1, .cons r t => .cons r (Vals.take n t)
theorem Vals.drop : ∀ {xs : List V} {us : List Value} (n : Nat), Vals xs us → Vals (xs.drop n) (us.drop n)
  | _, _, 0, r => r
  | _, _, _ + 1, .nil => .nil
  | _, _, n + 1, .cons _ t => Vals.drop n t
def RelO : Option V → Option Value → Prop
  | some v, some u => RelV v u
  | none, none => True
  | _, _ => False
def KV {κ : Type} : List (κ × V) → List (κ × Value) → Prop := Paired fun (p : κ × V) (q : κ × Value) => p.1 = q.1 ∧ RelV p.2 q.2

/-- a key of a dict (00_mix): an int or a text -/
def kV : Key → V
  | .inl i => .int i
  | .inr x => .str x

/-- what stands at a tracked address -/
inductive HO where
  /-- a list -/
  | lst (xs : List V)
  /-- a tuple (never changes) -/
  | tup (xs : List V)
  /-- a dict whose keys are ints and texts; one whose keys are tuples of ints and texts (the empty one is both) -/
  | dK (kvs : List (Key × V)) | dT (kvs : List (List Key × V))
  /-- a set of ints: its members, its size -/
  | set (S : Int → Bool) (n : Nat)
  /-- an instance of the class at C, its dict at dx, its attributes -/
  | ins (C dx : Addr) (fs : List (Str × V))
  /-- the dict of the instance at x -/
  | own (x : Addr)
  /-- the dict of an exception -/
  | xd (fs : List (Str × V))
  /-- a bound method, f of x -/
  | met (f x : Addr)
  /-- a range object lo, lo + 1, .. below hi -/
  | rng (lo hi : Int)
  /-- a thing that is known to the object (the script; a dict while a loop walks it): read, never written while it is so -/
  | frz (o : Obj) (u : HO)
  /-- a code object's table -/
  | tbl (ps : Array Value)
  /-- any other thing, by what is true of its one object (a def of one's own: SetO a S n := HO.ext fun h => ..) -/
  | ext (φ : Heap → Prop)

abbrev Hp := Addr → Option HO
def upd (H : Hp) (a : Addr) (o : HO) : Hp := fun b => if b = a then some o else H b
theorem upd_same {H : Hp} {a : Addr} {o : HO} : upd H a o a = some o := by unfold upd; rw [if_pos rfl]
theorem upd_ne {H : Hp} {a b : Addr} {o : HO} (h : b ≠ a) : upd H a o b = H b := by unfold upd; rw [if_neg h]
theorem upd_upd {H : Hp} {a : Addr} {o u : HO} : upd (upd H a o) a u = upd H a u := by
  funext b; unfold upd; split <;> rfl
/-- two objects of different content stand apart -/
theorem ne_of {H : Hp} {a b : Addr} {o u : HO} (h : H a = some o) (h' : H b = some u) (d : o ≠ u) : a ≠ b := by
  intro e; subst e; rw [h] at h'; exact d (Option.some.inj h')
theorem ne_of_none {H : Hp} {a b : Addr} {o : HO} (h : H a = some o) (h' : H b = none) : a ≠ b := by
  intro e; subst e; rw [h] at h'; cases h'

section
variable (P : Program) (w : World)
def ObjOk (H : Hp) (h : Heap) (a : Addr) : HO → Prop
  | .lst xs => xs.length ≤ sizeLine ∧ ∃ (its : List Value) (n : Nat), Vals xs its ∧ h.get? a = some { cls := .type "list", data := .seq its.toArray n }
  | .tup xs => xs.length ≤ sizeLine ∧ ∃ its : List Value, Vals xs its ∧ IsTup h a its.toArray
  | .dK kvs => kvs.length ≤ sizeLine ∧ (a == sysModules) = false ∧ ∃ vs, KV kvs vs ∧ h.DictOf (mixKind P w) a vs
  | .dT kvs => kvs.length ≤ sizeLine ∧ (a == sysModules) = false ∧ ∃ xs : List (List Key × Addr × Value),
      Paired (fun (p : List Key × V) (q : List Key × Addr × Value) => p.1 = q.1 ∧ H q.2.1 = some (.tup (p.1.map kV)) ∧ RelV p.2 q.2.2) kvs xs ∧
      ∃ o es ep, h.get? a = some o ∧ o.ExactDict ∧ o.data = .dict es ep ∧ es.toList = xs.map (entryOfKey (tupleKind (mixKind P w))) ∧ (xs.map (·.1)).Nodup
  | .set S n => h.SetOf (intKind P w) a S n
  | .ins C dx fs => H dx = some (.own a) ∧ fs.length ≤ 1000 ∧ dx ≠ a ∧ h.get? a = some (PySem.W.instObj C dx) ∧
      ∃ mA, h.Ns1 dx mA ∧ (∀ f, RelO (fs.lookup f) (mA f)) ∧ PySem.Within mA (fs.map (·.1))
  | .own _ => ∃ o, h.get? a = some o
  | .xd fs => ∃ mA, h.Ns1 a mA ∧ ∀ f, RelO (fs.lookup f) (mA f)
  | .rng lo hi => ∃ t u v, h.get? a = some { cls := .type "range", data := .fields #[.int lo t, .int hi u, .int 1 v] }
  | .frz o u => h.get? a = some o ∧ ObjOk H h a u
  | .tbl ps => h.get? a = some { cls := .none, data := .fields ps }
  | .met f x => h.get? a = some (PySem.W.methodObj (.ref f) (.ref x))
  | .ext φ => φ h ∧ (∃ o, h.get? a = some o) ∧ ∀ h1 h2 : Heap, φ h1 → (∀ o, h1.get? a = some o → h2.get? a = some o) → φ h2
/-- the abstract heap is held -/
def HOk (H : Hp) (h : Heap) : Prop := ∀ a o, H a = some o → ObjOk P w H h a o
end

section
variable {P : Program} {w : World} {H H' : Hp} {h h' : Heap} {a : Addr} {o : HO}
theorem ObjOk.lt (x : ObjOk P w H h a o) : a < h.objs.size := by
  cases o with
  | lst xs => obtain ⟨_, _, _, _, e⟩ := x; exact Heap.lt_size e
  | tup xs => obtain ⟨_, _, _, p⟩ := x; exact p.lt
  | dK kvs => obtain ⟨_, _, _, _, o, _, _, e, _⟩ := x; exact Heap.lt_size e
  | dT kvs => obtain ⟨_, _, _, _, o, _, _, e, _⟩ := x; exact Heap.lt_size e
  | set S n => obtain ⟨o, _, _, _, e, _⟩ := x; exact Heap.lt_size e
  | ins C dx fs => obtain ⟨_, _, _, e, _⟩ := x; exact Heap.lt_size e
  | own y => obtain ⟨_, e⟩ := x; exact Heap.lt_size e
  | xd fs => obtain ⟨_, ⟨_, _, _, e, _⟩, _⟩ := x; exact Heap.lt_size e
  | rng lo hi => obtain ⟨_, _, _, e⟩ := x; exact Heap.lt_size e
  | frz ob u => obtain ⟨e, _⟩ := x; exact Heap.lt_size e
  | tbl ps => exact Heap.lt_size (show h.get? a = some _ from x)
  | met f y => exact Heap.lt_size (show h.get? a = some _ from x)
  | ext φ => obtain ⟨_, ⟨_, e⟩, _⟩ := x; exact Heap.lt_size e
theorem Paired.mapP {α β : Type} {F G : α → β → Prop} : ∀ {l₁ : List α} {l₂ : List β}, Paired F l₁ l₂ → (∀ a b, F a b → G a b) → Paired G l₁ l₂
  | _, _, .nil, _ => .nil
  | _, _, .cons r t, f => .cons (f _ _ r) (Paired.mapP t f)
/-- what an object's description leans on: its own object, its own dict, the tuples -/
theorem ObjOk.stay (x : ObjOk P w H h a o) (k : ∀ b u, (b = a ∨ H b = some (.own a)) → h.get? b = some u → h'.get? b = some u)
    (ho : ∀ b, H b = some (.own a) → H' b = some (.own a)) (ht : ∀ b xs, H b = some (.tup xs) → H' b = some (.tup xs)) : ObjOk P w H' h' a o := by
  induction o with
  | lst xs => obtain ⟨z, its, n, r, e⟩ := x; exact ⟨z, its, n, r, k _ _ (.inl rfl) e⟩
  | tup xs => obtain ⟨z, its, r, ob, e, c⟩ := x; exact ⟨z, its, r, ob, k _ _ (.inl rfl) e, c⟩
  | dK kvs => obtain ⟨z, y, vs, r, ob, es, ep, e, c⟩ := x; exact ⟨z, y, vs, r, ob, es, ep, k _ _ (.inl rfl) e, c⟩
  | dT kvs =>
    obtain ⟨z, y, xs, r, ob, es, ep, e, c⟩ := x
    exact ⟨z, y, xs, Paired.mapP r fun p q z => ⟨z.1, ht _ _ z.2.1, z.2.2⟩, ob, es, ep, k _ _ (.inl rfl) e, c⟩
  | set S n => obtain ⟨ob, es, ep, t, e, c⟩ := x; exact ⟨ob, es, ep, t, k _ _ (.inl rfl) e, c⟩
  | ins C dx fs =>
    obtain ⟨d, z, ne, e, mA, ⟨od, es, ep, e2, c⟩, r⟩ := x
    exact ⟨ho _ d, z, ne, k _ _ (.inl rfl) e, mA, ⟨od, es, ep, k _ _ (.inr d) e2, c⟩, r⟩
  | own y => obtain ⟨ob, e⟩ := x; exact ⟨ob, k _ _ (.inl rfl) e⟩
  | xd fs => obtain ⟨mA, ⟨od, es, ep, e, c⟩, r⟩ := x; exact ⟨mA, ⟨od, es, ep, k _ _ (.inl rfl) e, c⟩, r⟩
  | rng lo hi => obtain ⟨t, u, v, e⟩ := x; exact ⟨t, u, v, k _ _ (.inl rfl) e⟩
  | frz ob u ih => obtain ⟨e, q⟩ := x; exact ⟨k _ _ (.inl rfl) e, ih q⟩
  | tbl ps =>
    have e : h.get? a = some { cls := .none, data := .fields ps } := x
    show h'.get? a = some { cls := .none, data := .fields ps }
    exact k a _ (.inl rfl) e
  | met f y =>
    have e : h.get? a = some (PySem.W.methodObj (.ref f) (.ref y)) := x
    show h'.get? a = some (PySem.W.methodObj (.ref f) (.ref y))
    exact k a _ (.inl rfl) e
  | ext φ => obtain ⟨p, ⟨o, e⟩, st⟩ := x; exact ⟨st _ _ p fun o q => k _ _ (.inl rfl) q, ⟨o, k _ _ (.inl rfl) e⟩, st⟩
theorem HOk.lt (x : HOk P w H h) (e : H a = some o) : a < h.objs.size := (x a o e).lt
theorem HOk.fresh (x : HOk P w H h) (e : h.objs.size ≤ a) : H a = none := by
  cases q : H a with
  | none => rfl
  | some u => exact absurd (Nat.lt_of_lt_of_le (x.lt q) e) (Nat.lt_irrefl _)
/-- every object of the heap is kept -/
theorem HOk.kept (x : HOk P w H h) (k : ∀ b u, h.get? b = some u → h'.get? b = some u) : HOk P w H h' := fun a o e =>
  (x a o e).stay (fun b u _ q => k b u q) (fun _ q => q) fun _ _ q => q
/-- a new object is laid and tracked -/
theorem HOk.laid (x : HOk P w H h) (k : ∀ b u, h.get? b = some u → h'.get? b = some u) (hp : h.objs.size ≤ a) (new : ObjOk P w (upd H a o) h' a o) : HOk P w (upd H a o) h' := fun b u e => by
  have hn := x.fresh hp
  by_cases hb : b = a
  · subst hb; rw [upd_same] at e; cases e; exact new
  · rw [upd_ne hb] at e
    exact (x b u e).stay (fun c v _ q => k c v q) (fun c q => by rw [upd_ne (ne_of_none q hn)]; exact q) fun c xs q => by rw [upd_ne (ne_of_none q hn)]; exact q
end

/-- what may be read as u: it is u, or a known u -/
def Rd (H : Hp) (a : Addr) (u : HO) : Prop := H a = some u ∨ ∃ o, H a = some (.frz o u)
theorem Rd.ok {P : Program} {w : World} {H : Hp} {h : Heap} {a : Addr} {u : HO} (r : Rd H a u) (x : HOk P w H h) : ObjOk P w H h a u := by
  rcases r with r | ⟨o, r⟩
  · exact x a u r
  · obtain ⟨_, q⟩ := x a _ r
    exact q
/-- what may be written -/
def Mut : Option HO → Prop
  | some (.lst _) => True
  | some (.dK _) => True
  | some (.dT _) => True
  | some (.set _ _) => True
  | some (.ins _ _ _) => True
  | some (.ext _) => True
  | _ => False
section
variable {P : Program} {w : World} {H : Hp} {h h' : Heap} {x e : Addr} {o' : HO}
/-- the object at e is changed: x itself, or the dict of the instance x -/
theorem HOk.write (ok : HOk P w H h) (mu : Mut (H x)) (he : e = x ∨ H e = some (.own x)) (k : ∀ b u, b ≠ e → h.get? b = some u → h'.get? b = some u) (heo : ∃ u, h'.get? e = some u)
    (new : ObjOk P w (upd H x o') h' x o') : HOk P w (upd H x o') h' := fun b u q => by
  have nown : ∀ c y, H c = some (.own y) → c ≠ x := fun c y r z => by subst z; rw [r] at mu; exact mu
  have ntup : ∀ c xs, H c = some (.tup xs) → c ≠ x := fun c xs r z => by subst z; rw [r] at mu; exact mu
  by_cases hb : b = x
  · subst hb; rw [upd_same] at q; cases q; exact new
  · rw [upd_ne hb] at q
    by_cases hbe : b = e
    · have q' : H b = some (.own x) := by
        rcases he with z | z
        · exact absurd (hbe.trans z) hb
        · rw [hbe]; exact z
      rw [q] at q'; cases q'
      obtain ⟨v, hv⟩ := heo
      exact ⟨v, by rw [hbe]; exact hv⟩
    · refine (ok b u q).stay (fun c v hc r => k c v ?_ r) (fun c r => by rw [upd_ne (nown c b r)]; exact r) fun c xs r => by rw [upd_ne (ntup c xs r)]; exact r
      rcases hc with rfl | hc
      · exact hbe
      · rintro rfl
        rcases he with z | z
        · exact nown c b hc z
        · rw [hc] at z; cases z; exact hb rfl
end

/-! ### kept unless tracked; of the frames at fs (the callers') the slots may change (an exception that passes writes there); of the records at ex (iterators) nothing is said -/
structure Un (fs ex : List Addr) (H H' : Hp) (h h' : Heap) : Prop where
  keep : ∀ b o, h.get? b = some o → H b = none → b ∉ fs → b ∉ ex → h'.get? b = some o
  slot : ∀ b o, h.get? b = some o → H b = none → b ∈ fs → b ∉ ex → ∃ sl, h'.get? b = some { o with slots := sl }
  free : ∀ b o, h.get? b = some o → H b = none → b ∉ ex → H' b = none
  there : ∀ b o, h.get? b = some o → b ∉ ex → ∃ o', h'.get? b = some o'
  tups : ∀ b xs, H b = some (.tup xs) → H' b = some (.tup xs)
  frzs : ∀ b o u, H b = some (.frz o u) → H' b = some (.frz o u)
  tbls : ∀ b ps, H b = some (.tbl ps) → ∃ more, H' b = some (.tbl (ps ++ more))
section
variable {fs fs' ex ex' : List Addr} {H H1 H2 : Hp} {h h1 h2 h' : Heap} {a x e : Addr} {o : HO}
theorem Un.any (u : Un fs ex H H1 h h1) {b : Addr} {ob : Obj} (q : h.get? b = some ob) (n : H b = none) (hx : b ∉ ex) : ∃ sl, h1.get? b = some { ob with slots := sl } := by
  by_cases hb : b ∈ fs
  · exact u.slot b ob q n hb hx
  · exact ⟨ob.slots, u.keep b ob q n hb hx⟩
theorem Un.kept (k : ∀ b u, h.get? b = some u → h'.get? b = some u) : Un fs ex H H h h' :=
  ⟨fun b ob q _ _ _ => k b ob q, fun b ob q _ _ _ => ⟨ob.slots, k b ob q⟩, fun _ _ _ n _ => n, fun b ob q _ => ⟨ob, k b ob q⟩, fun _ _ q => q, fun _ _ _ q => q, fun _ ps q => ⟨#[], by rw [q]; simp⟩⟩
theorem Un.refl : Un fs ex H H h h := Un.kept fun _ _ q => q
theorem Un.laid (k : ∀ b u, h.get? b = some u → h'.get? b = some u) (hp : h.objs.size ≤ a) (hn : H a = none) : Un fs ex H (upd H a o) h h' where
  keep := fun b u q _ _ _ => k b u q
  slot := fun b u q _ _ _ => ⟨u.slots, k b u q⟩
  free := fun b u q n _ => by rw [upd_ne (Nat.ne_of_lt (Nat.lt_of_lt_of_le (Heap.lt_size q) hp))]; exact n
  there := fun b u q _ => ⟨u, k b u q⟩
  tups := fun b xs q => by rw [upd_ne (ne_of_none q hn)]; exact q
  frzs := fun b u xs q => by rw [upd_ne (ne_of_none q hn)]; exact q
  tbls := fun b ps q => ⟨#[], by rw [upd_ne (ne_of_none q hn), q]; simp⟩
theorem Un.write (mu : Mut (H x)) (he : e = x ∨ H e = some (.own x)) (k : ∀ b u, b ≠ e → h.get? b = some u → h'.get? b = some u) (heo : ∃ u, h'.get? e = some u) : Un fs ex H (upd H x o) h h' := by
  have hx : ∀ b, H b = none → b ≠ x := fun b n z => by subst z; rw [n] at mu; exact mu
  have hb : ∀ b, H b = none → b ≠ e := fun b n z => by
    subst z
    rcases he with r | r
    · exact hx b n r
    · rw [n] at r; cases r
  have hm : ∀ b u, H b = some u → ¬ Mut (some u) → b ≠ x := fun b u q nm z => by subst z; rw [q] at mu; exact nm mu
  refine ⟨fun b u q n _ _ => k b u (hb b n) q, fun b u q n _ _ => ⟨u.slots, k b u (hb b n) q⟩, fun b u q n _ => by rw [upd_ne (hx b n)]; exact n, fun b u q _ => ?_,
    fun b xs q => by rw [upd_ne (hm b _ q fun z => z)]; exact q, fun b u xs q => by rw [upd_ne (hm b _ q fun z => z)]; exact q, fun b ps q => ⟨#[], by rw [upd_ne (hm b _ q fun z => z), q]; simp⟩⟩
  by_cases hbe : b = e
  · subst hbe; exact heo
  · exact ⟨u, k b u hbe q⟩
end

/-! ### the heap without what is tracked -/
def trk (h : Heap) (H : Hp) : List Addr := (List.range h.objs.size).filter fun a => (H a).isSome
def hidT (h : Heap) (H : Hp) : Heap := PySem.W.hideAll h (trk h H)
theorem hidT_size (h : Heap) (H : Hp) : (hidT h H).objs.size = h.objs.size := PySem.W.hideAll_size _ _
theorem hidT_get {h : Heap} {H : Hp} {b : Addr} {o : Obj} (e : h.get? b = some o) (n : H b = none) : (hidT h H).get? b = some o :=
  PySem.W.hideAll_get _ e fun hm => by
    have q : (H b).isSome = true := (List.mem_filter.mp hm).2
    rw [n] at q; simp at q
theorem of_hidT {h : Heap} {H : Hp} {b : Addr} {o : Obj} (e : (hidT h H).get? b = some o) : h.get? b = some o ∧ H b = none := by
  have e' : h.get? b = some o := PySem.W.of_hideAll (trk h H) e
  refine ⟨e', ?_⟩
  cases q : H b with
  | none => rfl
  | some x =>
    have hm : b ∈ trk h H := List.mem_filter.mpr ⟨List.mem_range.mpr (Heap.lt_size e'), by simp [q]⟩
    have z : (hidT h H).get? b = none := PySem.W.hideAll_none (trk h H) hm
    rw [z] at e; cases e

/-! ### OpenK's ledger, filled with every new object but one -/
def allNews (g h : Heap) (L : Addr) : List (Addr × Obj) := (List.range h.objs.size).filterMap fun a => if a = L ∨ (g.get? a).isSome = true then none else (h.get? a).map fun o => (a, o)
def rest (g h : Heap) (L d : Addr) : List (Addr × Obj) := (allNews g h L).filter fun p => decide (p.1 ≠ d)
end L2

namespace L2
open PySem PySem.Spec PyProof.Rows

/-- the module's facts, over the base: the heap at the law's entry without what is tracked there -/
structure Mod (K : PySem.W.Frag) (mg : Str → Option Value) (base : Heap) : Prop where
  kin : K.In base
  glob : base.Ns mainGlobals mg
  blt : ∃ mb, base.Ns builtinsNs mb ∧ ∀ x : Str, x ≠ "__name__" → mb x = bootBuiltins x
  nolimit : base.NoLimit

/-- the context: a def's body (or a comprehension's block) running. base: fixed through the whole law; s₀, H₀: the entry; outer: the frames whose slots others may change (a def's callers); stack: all frames that run;
   ex: iterators that were made ahead of the entry and are walked here (a comprehension's); fn: the names whose cells were made at the entry (a def: all; a comprehension's block: its own); calm: not within an except suite; pn: pins that every state bears; xe: what is wanted of an exception that leaves the code -/
structure Cx where
  prog : Program
  w : World
  K : PySem.W.Frag
  mg : Str → Option Value
  base : Heap
  A : Around
  N : List Str
  s₀ : Shared
  H₀ : Hp
  env : Env
  outer : List Env
  stack : List Env
  ex : List Addr
  fn : Str → Bool
  calm : Bool
  pn : List (Addr × Obj)
  xe : Value → Shared → Prop
/-- the callers' frames -/
def frs (l : List Env) : List Addr := l.filterMap (·.frame)
abbrev Cx.fs (X : Cx) : List Addr := frs X.outer

def Vis (sc : Scope) (x : Str) : Prop := sc.names.lookup x = some .local ∨ sc.names.lookup x = some .cell ∨ sc.names.lookup x = some .free
def Loc (sc : Scope) (x : Str) : Prop := sc.names.lookup x = some .local ∨ sc.names.lookup x = some .cell
def Look (env : Env) (h : Heap) (m : Str → Option Value) (x : Str) (u : Value) : Prop :=
  (env.kindOf x = some .local ∧ m x = some u) ∨ ((env.kindOf x = some .cell ∨ env.kindOf x = some .free) ∧ ∃ c, env.cells.lookup x = some c ∧ h.IsCell c (some u))

structure Cx.Ok (X : Cx) : Prop where
  mod : Mod X.K X.mg X.base
  kind : X.env.scope.kind = .function
  glob : X.env.globals = mainGlobals
  blt : X.env.builtins = builtinsNs
  above : X.s₀.heap.objs.size ≤ X.env.locals
  inj : ∀ x y c, X.env.cells.lookup x = some c → X.env.cells.lookup y = some c → x = y
  has : ∀ x, (X.env.kindOf x = some .cell ∨ X.env.kindOf x = some .free) → ∃ c, X.env.cells.lookup x = some c
  cab : ∀ x c, X.fn x = true → X.env.cells.lookup x = some c → X.s₀.heap.objs.size ≤ c
  hd : X.calm = true → X.A.handled = none
  frames : X.A.frames = some X.stack
  stk : X.stack = X.outer ∨ (X.stack = X.env :: X.outer ∧ X.env.frame = some X.env.locals)
  exf : ∀ b ∈ X.ex, b ≠ X.env.locals ∧ ∀ x c, X.env.cells.lookup x = some c → c ≠ b
  bs : ∀ b o, X.base.get? b = some o → X.s₀.heap.get? b = some o ∧ X.H₀ b = none
  bsz : X.base.objs.size ≤ X.s₀.heap.objs.size
  noex : ∀ b o, X.base.get? b = some o → b ∉ X.ex
  exfs : ∀ b ∈ X.ex, b ∉ X.fs
  funs : X.s₀.heap.FunFrames X.base X.outer
  frf : ∀ b ∈ X.fs, X.H₀ b = none

structure Inv (X : Cx) (pins : List (Addr × Obj)) (σ : List (Option V)) (H : Hp) (s : Shared) : Prop where
  ok : X.Ok
  os : s.os = X.s₀.os
  bare : AllBare s.gens
  base : Un X.fs X.ex X.H₀ H X.s₀.heap s.heap
  loc : ∃ m, s.heap.Ns X.env.locals m ∧ ∀ (i : Nat) (x : Str) (v : V), X.N[i]? = some x → σ[i]? = some (some v) → Vis X.env.scope x → ∃ u, RelV v u ∧ Look X.env s.heap m x u
  cell : ∀ x c, X.env.cells.lookup x = some c → ∃ v, s.heap.IsCell c v
  free : H X.env.locals = none
  freeC : ∀ x c, X.env.cells.lookup x = some c → H c = none
  pin : ∀ p ∈ X.pn ++ pins, s.heap.get? p.1 = some p.2 ∧ H p.1 = none ∧ p.1 ≠ X.env.locals ∧ p.1 ∉ X.fs ∧ ∀ v, p.2.data ≠ .cell v
  hok : HOk X.prog X.w H s.heap
  len : σ.length = X.N.length

section
variable {X : Cx} {pins : List (Addr × Obj)} {σ : List (Option V)} {H H' : Hp} {s : Shared} {h' : Heap}

theorem Cx.Ok.nofr (ok : X.Ok) {b : Addr} {o : Obj} (e : X.base.get? b = some o) : b ∉ X.fs := fun hb => by
  have := (ok.funs.mem hb).1
  rw [e] at this; cases this
theorem Inv.bs (I : Inv X pins σ H s) : ∀ b o, X.base.get? b = some o → s.heap.get? b = some o ∧ H b = none := fun b o e =>
  ⟨I.base.keep b o (I.ok.bs b o e).1 (I.ok.bs b o e).2 (I.ok.nofr e) (I.ok.noex b o e), I.base.free b o (I.ok.bs b o e).1 (I.ok.bs b o e).2 (I.ok.noex b o e)⟩
theorem Inv.bk (I : Inv X pins σ H s) : ∀ b o, X.base.get? b = some o → s.heap.get? b = some o := fun b o e => (I.bs b o e).1
theorem Inv.mod (I : Inv X pins σ H s) : Mod X.K X.mg X.base := I.ok.mod
theorem Inv.kIn (I : Inv X pins σ H s) : X.K.In s.heap := I.ok.mod.kin.keeps I.bk
theorem Inv.lt (I : Inv X pins σ H s) : X.env.locals < s.heap.objs.size := let ⟨_, hn, _⟩ := I.loc; hn.lt
theorem Inv.sz (I : Inv X pins σ H s) : X.s₀.heap.objs.size ≤ s.heap.objs.size := Nat.le_trans I.ok.above (Nat.le_of_lt I.lt)
theorem Inv.nofs (I : Inv X pins σ H s) {a : Addr} (h : s.heap.objs.size ≤ a) : a ∉ X.fs := fun hb => by
  obtain ⟨_, o, ho, _⟩ := I.ok.funs.mem hb
  exact absurd (Nat.lt_of_lt_of_le (Heap.lt_size ho) (Nat.le_trans I.sz h)) (Nat.lt_irrefl _)
theorem Inv.cne (I : Inv X pins σ H s) : ∀ x c, X.env.cells.lookup x = some c → c ≠ X.env.locals := fun x c e z => by
  obtain ⟨v, o, ho, hd⟩ := I.cell x c e
  obtain ⟨m, ⟨o', es, ep, ho', hd', _⟩, _⟩ := I.loc
  rw [z, ho'] at ho; cases ho; rw [hd'] at hd; cases hd
theorem Inv.funs (I : Inv X pins σ H s) : s.heap.FunFrames X.base X.outer := by
  have all : ∀ (l : List Env), (∀ b ∈ frs l, b ∈ X.fs) → X.s₀.heap.FunFrames X.base l → s.heap.FunFrames X.base l := by
    intro l
    induction l with
    | nil => intro _ _; trivial
    | cons env r ih =>
      intro hs hl
      obtain ⟨hk, ⟨L, o, hf, hn, ho, hd⟩, hr⟩ := hl
      have hL : L ∈ X.fs := hs L (by unfold frs; rw [List.filterMap_cons, hf]; exact List.mem_cons_self)
      obtain ⟨sl, e⟩ := I.base.slot L o ho (I.ok.frf L hL) hL fun z => I.ok.exfs L z hL
      exact ⟨hk, ⟨L, _, hf, hn, e, hd⟩, ih (fun b hb => hs b (by unfold frs; rw [List.filterMap_cons, hf]; exact List.mem_cons_of_mem _ hb)) hr⟩
  exact all X.outer (fun _ hb => hb) I.ok.funs

/-- the frames that run, for a call -/
theorem Inv.stack (I : Inv X pins σ H s) : s.heap.FunFrames X.base X.stack := by
  rcases I.ok.stk with e | ⟨e, hf⟩
  · rw [e]; exact I.funs
  · rw [e]
    obtain ⟨m, hn, _⟩ := I.loc
    refine .cons (by rw [I.ok.kind]; decide) hf hn ?_ I.funs
    exact Heap.get?_none_of_le (Nat.le_trans I.ok.bsz I.ok.above)
theorem Inv.stkSub (I : Inv X pins σ H s) : ∀ b ∈ frs X.stack, b ∈ X.env.locals :: X.fs := fun b hb => by
  rcases I.ok.stk with e | ⟨e, hf⟩
  · rw [e] at hb; exact List.mem_cons_of_mem _ hb
  · rw [e] at hb
    unfold frs at hb
    rw [List.filterMap_cons, hf] at hb
    exact hb
theorem Inv.stkFree (I : Inv X pins σ H s) : ∀ b ∈ frs X.stack, H b = none := fun b hb => by
  rcases List.mem_cons.mp (I.stkSub b hb) with e | hb
  · rw [e]; exact I.free
  · obtain ⟨_, o, ho, _⟩ := I.ok.funs.mem hb
    exact I.base.free b o ho (I.ok.frf b hb) fun z => I.ok.exfs b z hb

/-- THE STEP: the untracked objects but the frame and the records at ch are kept (the callers' frames up to slots), the frame's map is kept, the new abstract heap is held -/
theorem Inv.step {g' : Array GenState} {t' : Nat} {d' : Drawn} {ch : List Addr} (I : Inv X pins σ H s)
    (hch : ∀ b ∈ ch, (b ∈ X.ex ∨ X.s₀.heap.objs.size ≤ b) ∧ b ≠ X.env.locals ∧ (∀ x c, X.env.cells.lookup x = some c → c ≠ b) ∧ ∀ p ∈ X.pn ++ pins, p.1 ≠ b)
    (keep : ∀ b o, b ≠ X.env.locals → b ∉ X.fs → b ∉ ch → s.heap.get? b = some o → H b = none → h'.get? b = some o)
    (slot : ∀ b o, b ≠ X.env.locals → b ∈ X.fs → b ∉ ch → s.heap.get? b = some o → H b = none → ∃ sl, h'.get? b = some { o with slots := sl }) (free : ∀ b o, b ∉ ch → s.heap.get? b = some o → H b = none → H' b = none)
    (there : ∀ b o, b ∉ ch → s.heap.get? b = some o → ∃ o', h'.get? b = some o')
    (tups : ∀ b xs, H b = some (.tup xs) → H' b = some (.tup xs)) (frzs : ∀ b o u, H b = some (.frz o u) → H' b = some (.frz o u)) (tbls : ∀ b ps, H b = some (.tbl ps) → ∃ more, H' b = some (.tbl (ps ++ more)))
    (ns : ∀ m, s.heap.Ns X.env.locals m → h'.Ns X.env.locals m) (hok : HOk X.prog X.w H' h') (hg : AllBare g') :
    Inv X pins σ H' { s with heap := h', gens := g', drawn := d', toks := t' } := by
  have neL : ∀ b o, X.s₀.heap.get? b = some o → b ≠ X.env.locals := fun b o e => Nat.ne_of_lt (Nat.lt_of_lt_of_le (Heap.lt_size e) I.ok.above)
  have neC : ∀ b o, X.s₀.heap.get? b = some o → b ∉ X.ex → b ∉ ch := fun b o e hx hb => by
    rcases (hch b hb).1 with z | z
    · exact hx z
    · exact absurd (Nat.lt_of_lt_of_le (Heap.lt_size e) z) (Nat.lt_irrefl _)
  have cellK : ∀ x c, X.env.cells.lookup x = some c → ∀ v, s.heap.IsCell c v → h'.IsCell c v := fun x c e v ⟨o, ho, hd⟩ => by
    have nch : c ∉ ch := fun z => (hch c z).2.2.1 x c e rfl
    by_cases hc : c ∈ X.fs
    · obtain ⟨sl, q⟩ := slot c o (I.cne x c e) hc nch ho (I.freeC x c e)
      exact ⟨_, q, hd⟩
    · exact ⟨o, keep c o (I.cne x c e) hc nch ho (I.freeC x c e), hd⟩
  refine ⟨I.ok, I.os, hg, ⟨fun b o e n hb hx => ?_, fun b o e n hb hx => ?_, fun b o e n hx => ?_, fun b o e hx => ?_, fun b xs e => tups b xs (I.base.tups b xs e), fun b o xs e => frzs b o xs (I.base.frzs b o xs e), fun b ps e => ?_⟩, ?_, fun x c e => ?_, ?_, fun x c e => ?_, fun p hp => ?_, hok, I.len⟩
  · exact keep b o (neL b o e) hb (neC b o e hx) (I.base.keep b o e n hb hx) (I.base.free b o e n hx)
  · obtain ⟨sl, e1⟩ := I.base.slot b o e n hb hx
    obtain ⟨sl', e2⟩ := slot b _ (neL b o e) hb (neC b o e hx) e1 (I.base.free b o e n hx)
    exact ⟨sl', e2⟩
  · obtain ⟨o', e1⟩ := I.base.there b o e hx
    exact free b o' (neC b o e hx) e1 (I.base.free b o e n hx)
  · obtain ⟨o', e1⟩ := I.base.there b o e hx
    exact there b o' (neC b o e hx) e1
  · obtain ⟨m1, e1⟩ := I.base.tbls b ps e
    obtain ⟨m2, e2⟩ := tbls b _ e1
    exact ⟨m1 ++ m2, by rw [e2, Array.append_assoc]⟩
  · obtain ⟨m, hn, hl⟩ := I.loc
    refine ⟨m, ns m hn, fun i x v e1 e2 e3 => ?_⟩
    obtain ⟨u, r, l⟩ := hl i x v e1 e2 e3
    refine ⟨u, r, ?_⟩
    rcases l with l | ⟨k, c, e, z⟩
    · exact .inl l
    · exact .inr ⟨k, c, e, cellK x c e _ z⟩
  · obtain ⟨v, z⟩ := I.cell x c e
    exact ⟨v, cellK x c e v z⟩
  · obtain ⟨m, ⟨o, _, _, ho, _⟩, _⟩ := I.loc
    exact free _ o (fun z => (hch _ z).2.1 rfl) ho I.free
  · obtain ⟨v, o, ho, hd⟩ := I.cell x c e
    exact free c o (fun z => (hch c z).2.2.1 x c e rfl) ho (I.freeC x c e)
  · obtain ⟨e, n, ne, nf, d⟩ := I.pin p hp
    have nch : p.1 ∉ ch := fun z => (hch p.1 z).2.2.2 p hp rfl
    exact ⟨keep p.1 p.2 ne nf nch e n, free p.1 p.2 nch e n, ne, nf, d⟩
/-- .. where the frame's own object is kept too -/
theorem Inv.un {t' : Nat} (I : Inv X pins σ H s) (u : Un X.fs [] H H' s.heap h') (hok : HOk X.prog X.w H' h') : Inv X pins σ H' { s with heap := h', toks := t' } := by
  obtain ⟨m, ⟨o, es, ep, ho, r⟩, _⟩ := id I.loc
  obtain ⟨sl, hL⟩ := u.any ho I.free (by simp)
  exact I.step (g' := s.gens) (d' := s.drawn) (ch := []) (fun _ z => nomatch z) (fun b o _ hb _ e n => u.keep b o e n hb (by simp)) (fun b o _ hb _ e n => u.slot b o e n hb (by simp)) (fun b o _ e n => u.free b o e n (by simp)) (fun b o _ e => u.there b o e (by simp)) u.tups u.frzs u.tbls (fun m' hm => by
    obtain ⟨o', es', ep', ho', r'⟩ := hm
    rw [ho] at ho'; cases ho'
    exact ⟨_, es', ep', hL, r'⟩) hok I.bare
/-- behind a call (or a comprehension's block): the slots of this frame may have changed too, the records at ch may have turned -/
theorem Inv.call {g' : Array GenState} {t' : Nat} {d' : Drawn} {ch : List Addr} (I : Inv X pins σ H s) (u : Un (frs X.stack) ch H H' s.heap h') (hok : HOk X.prog X.w H' h') (hg : AllBare g')
    (hch : ∀ b ∈ ch, (b ∈ X.ex ∨ X.s₀.heap.objs.size ≤ b) ∧ b ≠ X.env.locals ∧ (∀ x c, X.env.cells.lookup x = some c → c ≠ b) ∧ ∀ p ∈ X.pn ++ pins, p.1 ≠ b) :
    Inv X pins σ H' { s with heap := h', gens := g', drawn := d', toks := t' } := by
  obtain ⟨m, ⟨o, es, ep, ho, r⟩, _⟩ := id I.loc
  obtain ⟨sl, hL⟩ := u.any ho I.free fun z => (hch _ z).2.1 rfl
  exact I.step (ch := ch) hch (fun b o hL hb hc e n => u.keep b o e n (fun z => (List.mem_cons.mp (I.stkSub b z)).elim hL hb) hc) (fun b o _ _ hc e n => u.any e n hc) (fun b o hc e n => u.free b o e n hc) (fun b o hc e => u.there b o e hc) u.tups u.frzs u.tbls (fun m' hm => by
    obtain ⟨o', es', ep', ho', r'⟩ := hm
    rw [ho] at ho'; cases ho'
    exact ⟨_, es', ep', hL, r'⟩) hok hg
/-- an untracked record of ours (an iterator) has turned -/
theorem Inv.turned {t' : Nat} {it : Addr} (I : Inv X pins σ H s) (k : ∀ b o, b ≠ it → s.heap.get? b = some o → h'.get? b = some o) (hn : H it = none) (hL : it ≠ X.env.locals)
    (h1 : it ∈ X.ex ∨ X.s₀.heap.objs.size ≤ it) (h2 : ∀ x c, X.env.cells.lookup x = some c → c ≠ it) (h3 : ∀ p ∈ X.pn ++ pins, p.1 ≠ it) : Inv X pins σ H { s with heap := h', toks := t' } := by
  have nit : ∀ b u, H b = some u → b ≠ it := fun b u e z => by rw [z, hn] at e; cases e
  refine I.step (g' := s.gens) (d' := s.drawn) (ch := [it]) (fun b hb => ?_) (fun b o _ _ hc e _ => k b o (fun z => hc (by simp [z])) e) (fun b o _ _ hc e _ => ⟨o.slots, k b o (fun z => hc (by simp [z])) e⟩) (fun _ _ _ _ n => n)
    (fun b o hc e => ⟨o, k b o (fun z => hc (by simp [z])) e⟩) (fun _ _ e => e) (fun _ _ _ e => e) (fun b ps e => ⟨#[], by rw [e]; simp⟩) (fun m hm => ?_) (fun b u e => ?_) I.bare
  · have e : b = it := by simpa using hb
    subst e
    exact ⟨h1, hL, h2, h3⟩
  · obtain ⟨o, es, ep, ho, r⟩ := hm
    exact ⟨o, es, ep, k _ o (Ne.symm hL) ho, r⟩
  · refine (I.hok b u e).stay (fun c v hc q => k c v ?_ q) (fun _ q => q) fun _ _ q => q
    rcases hc with z | z
    · rw [z]; exact nit b u e
    · exact nit c _ z
theorem Inv.tok (I : Inv X pins σ H s) (t : Nat) : Inv X pins σ H { s with toks := t } := I.un (h' := s.heap) (t' := t) Un.refl I.hok
/-- all objects kept -/
theorem Inv.kept {t' : Nat} (I : Inv X pins σ H s) (k : ∀ b u, s.heap.get? b = some u → h'.get? b = some u) : Inv X pins σ H { s with heap := h', toks := t' } := I.un (Un.kept k) (I.hok.kept k)
/-- a new object laid and tracked -/
theorem Inv.laid {a : Addr} {o : HO} {t' : Nat} (I : Inv X pins σ H s) (k : ∀ b u, s.heap.get? b = some u → h'.get? b = some u) (hp : s.heap.objs.size ≤ a) (new : ObjOk X.prog X.w (upd H a o) h' a o) :
    Inv X pins σ (upd H a o) { s with heap := h', toks := t' } := I.un (Un.laid k hp (I.hok.fresh hp)) (I.hok.laid k hp new)
/-- an object written -/
theorem Inv.write {x e : Addr} {o : HO} {t' : Nat} (I : Inv X pins σ H s) (mu : Mut (H x)) (he : e = x ∨ H e = some (.own x)) (k : ∀ b u, b ≠ e → s.heap.get? b = some u → h'.get? b = some u) (heo : ∃ u, h'.get? e = some u)
    (new : ObjOk X.prog X.w (upd H x o) h' x o) : Inv X pins σ (upd H x o) { s with heap := h', toks := t' } := I.un (Un.write mu he k heo) (I.hok.write mu he k heo new)
theorem Inv.pins_of {pins' : List (Addr × Obj)} (I : Inv X pins σ H s) (h : ∀ p ∈ pins', s.heap.get? p.1 = some p.2 ∧ H p.1 = none ∧ p.1 ≠ X.env.locals ∧ p.1 ∉ X.fs ∧ ∀ v, p.2.data ≠ .cell v) : Inv X pins' σ H s :=
  ⟨I.ok, I.os, I.bare, I.base, I.loc, I.cell, I.free, I.freeC, fun p hp => (List.mem_append.mp hp).elim (fun z => I.pin p (List.mem_append_left _ z)) (h p), I.hok, I.len⟩

theorem nodup_ix {N : List Str} (hN : N.Nodup) {i j : Nat} {x : Str} (a : N[i]? = some x) (b : N[j]? = some x) : i = j := by
  obtain ⟨h1, e1⟩ := List.getElem?_eq_some_iff.mp a
  obtain ⟨h2, e2⟩ := List.getElem?_eq_some_iff.mp b
  exact (List.getElem_inj hN).mp (e1.trans e2.symm)

/-- a name is stored; what changed -/
theorem store_ok2 {M : Model} {A : Around} {E : Value → Shared → Prop} {i : Nat} {x : Str} {v : V} {u : Value} {Q : Unit → Shared → Prop} (I : Inv X pins σ H s) (hN : X.N.Nodup) (hi : X.N[i]? = some x) (hx : Loc X.env.scope x) (r : RelV v u)
    (h : ∀ s', Inv X pins (σ.set i (some v)) H s' → (∃ a, Heap.SameBut a s.heap s'.heap ∧ (a = X.env.locals ∨ X.env.cells.lookup x = some a)) → Q () s') (hf : X.fn x = true ∨ X.env.scope.names.lookup x = some .local := by first | exact .inl rfl | exact .inr rfl | assumption) : wpAny M A (storeName X.env x u) Q E s := by
  obtain ⟨m, hn, hl⟩ := id I.loc
  have hcls : (X.env.scope.kind == .class || (X.env.scope.kind == .module && X.env.locals != X.env.globals)) = false := by rw [I.ok.kind]; rfl
  have hiσ : i < σ.length := by rw [I.len]; exact (List.getElem?_eq_some_iff.mp hi).1
  have cne := I.cne
  have tracked : ∀ {a : Addr} {h' : Heap}, (∃ o, s.heap.get? a = some o ∧ H a = none) → Heap.SameBut a s.heap h' → HOk X.prog X.w H h' := fun {a h'} ha hs b ob e => by
    obtain ⟨_, _, hfree⟩ := ha
    refine (I.hok b ob e).stay (fun c w' hc q => (hs.2 c ?_).trans q) (fun _ q => q) fun _ _ q => q
    rintro rfl
    rcases hc with rfl | hc
    · rw [hfree] at e; cases e
    · rw [hfree] at hc; cases hc
  rcases hx with hk | hk
  · refine wpAny_storeName_local hk hn (fun h' hn' hs => ?_) hcls
    obtain ⟨oL, _, _, hoL, _⟩ := id hn
    refine h _ ⟨I.ok, I.os, I.bare, ⟨fun b o e n hb hx => ?_, fun b o e n hb hx => ?_, I.base.free, fun b o e hx => ?_, I.base.tups, I.base.frzs, I.base.tbls⟩, ⟨_, hn', fun j y v' e1 e2 e3 => ?_⟩, fun y c e => ?_, I.free, I.freeC, fun p hp => ?_, tracked ⟨oL, hoL, I.free⟩ hs, by simpa using I.len⟩ ⟨_, hs, .inl rfl⟩
    · exact (hs.2 b (Nat.ne_of_lt (Nat.lt_of_lt_of_le (Heap.lt_size e) I.ok.above))).trans (I.base.keep b o e n hb hx)
    · obtain ⟨sl, e1⟩ := I.base.slot b o e n hb hx
      exact ⟨sl, (hs.2 b (Nat.ne_of_lt (Nat.lt_of_lt_of_le (Heap.lt_size e) I.ok.above))).trans e1⟩
    · obtain ⟨o', e1⟩ := I.base.there b o e hx
      exact ⟨o', (hs.2 b (Nat.ne_of_lt (Nat.lt_of_lt_of_le (Heap.lt_size e) I.ok.above))).trans e1⟩
    · by_cases hj : j = i
      · subst hj
        rw [hi] at e1; cases e1
        rw [List.getElem?_set_self hiσ] at e2
        cases e2
        exact ⟨u, r, .inl ⟨hk, by simp⟩⟩
      · rw [List.getElem?_set_ne (Ne.symm hj)] at e2
        obtain ⟨u', r', q⟩ := hl j y v' e1 e2 e3
        refine ⟨u', r', ?_⟩
        rcases q with ⟨k, e⟩ | ⟨k, c, e, z⟩
        · refine .inl ⟨k, ?_⟩
          have : y ≠ x := fun e => hj (nodup_ix hN e1 (e ▸ hi))
          simp [this, e]
        · exact .inr ⟨k, c, e, z.sameBut hs (cne y c e)⟩
    · obtain ⟨w', z⟩ := I.cell y c e
      exact ⟨w', z.sameBut hs (cne y c e)⟩
    · obtain ⟨e, n, ne, nf, d⟩ := I.pin p hp
      exact ⟨(hs.2 p.1 ne).trans e, n, ne, nf, d⟩
  · have hfn : X.fn x = true := by
      rcases hf with z | z
      · exact z
      · rw [z] at hk; cases hk
    obtain ⟨c, hc⟩ := I.ok.has x (.inl hk)
    obtain ⟨w', z⟩ := I.cell x c hc
    refine wpAny_storeName_cell I.ok.kind hk hc z (fun h' hc' hs => ?_)
    obtain ⟨oc, hoc, hocd⟩ := id z
    refine h { s with heap := h' } ⟨I.ok, I.os, I.bare, ⟨fun b o e n hb hx => ?_, fun b o e n hb hx => ?_, I.base.free, fun b o e hx => ?_, I.base.tups, I.base.frzs, I.base.tbls⟩, ⟨m, hn.sameBut hs (Ne.symm (cne x c hc)), fun j y v' e1 e2 e3 => ?_⟩, fun y c' e => ?_, I.free, I.freeC, fun p hp => ?_, tracked ⟨oc, hoc, I.freeC x c hc⟩ hs, by simpa using I.len⟩ ⟨c, hs, .inr hc⟩
    · exact (hs.2 b (Nat.ne_of_lt (Nat.lt_of_lt_of_le (Heap.lt_size e) (I.ok.cab x c hfn hc)))).trans (I.base.keep b o e n hb hx)
    · obtain ⟨sl, e1⟩ := I.base.slot b o e n hb hx
      exact ⟨sl, (hs.2 b (Nat.ne_of_lt (Nat.lt_of_lt_of_le (Heap.lt_size e) (I.ok.cab x c hfn hc)))).trans e1⟩
    · obtain ⟨o', e1⟩ := I.base.there b o e hx
      exact ⟨o', (hs.2 b (Nat.ne_of_lt (Nat.lt_of_lt_of_le (Heap.lt_size e) (I.ok.cab x c hfn hc)))).trans e1⟩
    · by_cases hj : j = i
      · subst hj
        rw [hi] at e1; cases e1
        rw [List.getElem?_set_self hiσ] at e2
        cases e2
        exact ⟨u, r, .inr ⟨.inl hk, c, hc, hc'⟩⟩
      · rw [List.getElem?_set_ne (Ne.symm hj)] at e2
        obtain ⟨u', r', q⟩ := hl j y v' e1 e2 e3
        refine ⟨u', r', ?_⟩
        rcases q with q | ⟨k, c', e, z'⟩
        · exact .inl q
        · refine .inr ⟨k, c', e, z'.sameBut hs ?_⟩
          rintro rfl
          exact hj (nodup_ix hN e1 (I.ok.inj _ _ _ e hc ▸ hi))
    · by_cases hcc : c' = c
      · subst hcc; exact ⟨_, hc'⟩
      · obtain ⟨w2, z2⟩ := I.cell y c' e
        exact ⟨w2, z2.sameBut hs hcc⟩
    · obtain ⟨e, n, ne, nf, d⟩ := I.pin p hp
      refine ⟨(hs.2 p.1 ?_).trans e, n, ne, nf, d⟩
      intro q
      rw [q, hoc] at e
      have q' : oc = p.2 := Option.some.inj e
      exact d w' (by rw [← q']; exact hocd)
theorem store_ok {M : Model} {A : Around} {E : Value → Shared → Prop} {i : Nat} {x : Str} {v : V} {u : Value} {Q : Unit → Shared → Prop} (I : Inv X pins σ H s) (hN : X.N.Nodup) (hi : X.N[i]? = some x) (hx : Loc X.env.scope x) (r : RelV v u)
    (h : ∀ s', Inv X pins (σ.set i (some v)) H s' → Q () s') (hf : X.fn x = true ∨ X.env.scope.names.lookup x = some .local := by first | exact .inl rfl | exact .inr rfl | assumption) : wpAny M A (storeName X.env x u) Q E s :=
  store_ok2 I hN hi hx r (fun s' I' _ => h s' I') hf
/-- behind a call or a block, the state as it is -/
theorem Inv.call' {s' : Shared} {ch : List Addr} (I : Inv X pins σ H s) (ho : s'.os = s.os) (u : Un (frs X.stack) ch H H' s.heap s'.heap) (hok : HOk X.prog X.w H' s'.heap) (hg : AllBare s'.gens)
    (hch : ∀ b ∈ ch, (b ∈ X.ex ∨ X.s₀.heap.objs.size ≤ b) ∧ b ≠ X.env.locals ∧ (∀ x c, X.env.cells.lookup x = some c → c ≠ b) ∧ ∀ p ∈ X.pn ++ pins, p.1 ≠ b) : Inv X pins σ H' s' := by
  obtain ⟨h', g', d', t', o'⟩ := s'
  have e : o' = s.os := ho
  subst e
  exact I.call (g' := g') (t' := t') (d' := d') u hok hg hch
end

/-! ### the judgements -/
/-- an exception: its class, its own dict's address (where it has one), the abstract heap behind it -/
abbrev XK := Value → Option Addr → Hp → Prop
abbrev St := List (Option V)
abbrev VK := V → Hp → Prop
/-- an expression's reading; a test's; an argument list's -/
abbrev TE := St → Hp → VK → Prop
abbrev TT := St → Hp → (Bool → Hp → Prop) → Prop
abbrev TA := St → Hp → (List V → Hp → Prop) → Prop
/-- what is wanted behind a statement -/
structure Ends where
  nx : St → Hp → Prop
  rt : VK
  bk : St → Hp → Prop := fun _ _ => False
  ct : St → Hp → Prop := fun _ _ => False
abbrev TS := Ends → St → Hp → Prop

def EP (X : Cx) (pins : List (Addr × Obj)) (σ : St) (Q : VK) (u : Value) (s' : Shared) : Prop := ∃ v H', Inv X pins σ H' s' ∧ RelV v u ∧ Q v H'
def TP (X : Cx) (pins : List (Addr × Obj)) (σ : St) (Q : Bool → Hp → Prop) (b : Bool) (s' : Shared) : Prop := ∃ H', Inv X pins σ H' s' ∧ Q b H'
def AP (X : Cx) (pins : List (Addr × Obj)) (σ : St) (Q : List V → Hp → Prop) (us : List Value) (s' : Shared) : Prop := ∃ vs H', Inv X pins σ H' s' ∧ Vals vs us ∧ Q vs H'
def SP (X : Cx) (pins : List (Addr × Obj)) (D : Ends) (f : Flow) (s' : Shared) : Prop :=
  match f with
  | .next => ∃ σ' H', Inv X pins σ' H' s' ∧ D.nx σ' H'
  | .brk => ∃ σ' H', Inv X pins σ' H' s' ∧ D.bk σ' H'
  | .cont => ∃ σ' H', Inv X pins σ' H' s' ∧ D.ct σ' H'
  | .ret u => ∃ v σ' H', Inv X pins σ' H' s' ∧ RelV v u ∧ D.rt v H'

def PE (X : Cx) (e : Expr) (t : TE) : Prop :=
  ∀ (pins : List (Addr × Obj)) (s : Shared) (σ : St) (H : Hp) (Q : VK), Inv X pins σ H s → t σ H Q → wpAny (model X.prog X.w) X.A (eval e X.env) (EP X pins σ Q) X.xe s
def PT (X : Cx) (e : Expr) (t : TT) : Prop :=
  ∀ (pins : List (Addr × Obj)) (s : Shared) (σ : St) (H : Hp) (Q : Bool → Hp → Prop), Inv X pins σ H s → t σ H Q → wpAny (model X.prog X.w) X.A (isTrue e X.env (eval e X.env)) (TP X pins σ Q) X.xe s
/-- a test whatever its 'whole' is (and, or) -/
def PW (X : Cx) (e : Expr) (t : TT) : Prop :=
  ∀ (whole : Sem Value) (pins : List (Addr × Obj)) (s : Shared) (σ : St) (H : Hp) (Q : Bool → Hp → Prop), Inv X pins σ H s → t σ H Q → wpAny (model X.prog X.w) X.A (isTrue e X.env whole) (TP X pins σ Q) X.xe s
theorem PW.pt {X : Cx} {e : Expr} {t : TT} (h : PW X e t) : PT X e t := h _
/-- an argument list (no star), from the left -/
def PA (X : Cx) (es : List Expr) (t : TA) : Prop :=
  ∀ (pos : Pos) (pins : List (Addr × Obj)) (s : Shared) (σ : St) (H : Hp) (Q : List V → Hp → Prop), Inv X pins σ H s → t σ H Q → wpAny (model X.prog X.w) X.A (spliced (backTo pos (starEach es X.env))) (AP X pins σ Q) X.xe s
def PS (X : Cx) (st : Stmt) (t : TS) : Prop :=
  ∀ (pins : List (Addr × Obj)) (s : Shared) (σ : St) (H : Hp) (D : Ends), Inv X pins σ H s → t D σ H → wpAny (model X.prog X.w) X.A (exec st X.env) (SP X pins D) X.xe s
def PSs (X : Cx) (st : List Stmt) (t : TS) : Prop :=
  ∀ (pins : List (Addr × Obj)) (s : Shared) (σ : St) (H : Hp) (D : Ends), Inv X pins σ H s → t D σ H → wpAny (model X.prog X.w) X.A (execs st X.env) (SP X pins D) X.xe s
/-- weaken the end -/
theorem thn {α : Type} {t : Sem α} {Q Q' : α → Shared → Prop} {M : Model} {A : Around} {E : Value → Shared → Prop} {s : Shared} (h : wpAny M A t Q E s) (hQ : ∀ a s, Q a s → Q' a s) : wpAny M A t Q' E s := wpAny_mono h hQ fun _ _ x => x
end L2

namespace L2
open PySem PySem.Spec PyProof.Rows
section
variable {X : Cx}

/-! ### names and constants -/
def tVar (i : Nat) : TE := fun σ H Q => ∃ v, σ[i]? = some (some v) ∧ Q v H
def tC (v : V) : TE := fun _ H Q => Q v H
theorem pe_var {i : Nat} {x : Str} {pos : Pos} (hN : X.N[i]? = some x) (hv : Vis X.env.scope x) (hd : (x == ("__debug__" : Str)) = false := by decide) (hcd : (x == ("__classdict__" : Str)) = false := by decide) : PE X (.Name x pos) (tVar i) := by
  intro pins s σ H Q I h
  obtain ⟨v, e, h⟩ := h
  obtain ⟨m, hn, hl⟩ := I.loc
  obtain ⟨u, r, l⟩ := hl i x v hN e hv
  have fin : EP X pins σ Q u s := ⟨v, H, I, r, h⟩
  rcases l with ⟨hk, hm⟩ | ⟨hk, c, hc, hcell⟩
  · exact wpAny_Name (wpAny_loadName_local I.ok.kind hk hn hm fin) hd
  · rcases hk with hk | hk
    · exact wpAny_Name (wpAny_loadName_cell I.ok.kind hk hc hcell fin) hd
    · exact wpAny_Name (wpAny_loadName_free I.ok.kind hk hc hcell fin hcd) hd
theorem pe_int {i j pos} : PE X (.Constant (.int i) j pos) (tC (.int i)) := fun _ _ _ H _ I h => wpAny_Constant_int ⟨.int i, H, I.tok _, ⟨_, rfl⟩, h⟩
theorem pe_bl {b j pos} : PE X (.Constant (.bool b) j pos) (tC (.bl b)) := fun _ _ _ H _ I h => Constant_bool ⟨.bl b, H, I, rfl, h⟩
theorem pe_non {j pos} : PE X (.Constant .none j pos) (tC .non) := fun _ _ _ H _ I h => Constant_none ⟨.non, H, I, rfl, h⟩
theorem pe_str {x j pos} : PE X (.Constant (.str x) j pos) (tC (.str x)) := fun _ _ _ H _ I h => Calls.Constant_str ⟨.str x, H, I.tok _, ⟨_, rfl⟩, h⟩

/-- a global name of the def -/
def Gl (X : Cx) (x : Str) : Prop := X.env.kindOf x = some .globalImplicit
theorem ld_glob {E : Value → Shared → Prop} {pins : List (Addr × Obj)} {s : Shared} {σ : St} {H : Hp} {x : Str} {u : Value} {pos : Pos} {Q : Value → Shared → Prop} (I : Inv X pins σ H s) (hg : Gl X x) (hm : X.mg x = some u) (h : Q u s)
    (hd : (x == ("__debug__" : Str)) = false := by decide) : wpAny (model X.prog X.w) X.A (eval (.Name x pos) X.env) Q E s :=
  Calls.Name_function_global I.ok.kind hg (Calls.loadGlobal_global (by rw [I.ok.glob]; exact I.mod.glob.keeps I.bk) hm h) hd
theorem ld_blt {E : Value → Shared → Prop} {pins : List (Addr × Obj)} {s : Shared} {σ : St} {H : Hp} {x : Str} {u : Value} {pos : Pos} {Q : Value → Shared → Prop} (I : Inv X pins σ H s) (hg : Gl X x) (hm : X.mg x = none) (hv : bootBuiltins x = some u) (h : Q u s)
    (hn : x ≠ "__name__" := by decide) (hd : (x == ("__debug__" : Str)) = false := by decide) : wpAny (model X.prog X.w) X.A (eval (.Name x pos) X.env) Q E s := by
  obtain ⟨mb, h1, h2⟩ := I.mod.blt
  exact Calls.Name_function_global I.ok.kind hg (Calls.loadGlobal_builtin (by rw [I.ok.glob]; exact I.mod.glob.keeps I.bk) hm (by rw [I.ok.blt]; exact h1.keeps I.bk) ((h2 x hn).trans hv) h) hd
/-- a module's constant, a class, a function, as a value -/
theorem pe_glob {x : Str} {v : V} {u : Value} {pos : Pos} (hg : Gl X x) (hm : X.mg x = some u) (r : RelV v u) (hd : (x == ("__debug__" : Str)) = false := by decide) : PE X (.Name x pos) (tC v) :=
  fun _ _ _ H _ I h => ld_glob I hg hm ⟨v, H, I, r, h⟩ hd
theorem pe_bltn {x : Str} {v : V} {u : Value} {pos : Pos} (hg : Gl X x) (hm : X.mg x = none) (hv : bootBuiltins x = some u) (r : RelV v u) (hn : x ≠ "__name__" := by decide) (hd : (x == ("__debug__" : Str)) = false := by decide) : PE X (.Name x pos) (tC v) :=
  fun _ _ _ H _ I h => ld_blt I hg hm hv ⟨v, H, I, r, h⟩ hn hd

/-! ### arithmetic -/
/-- two ints -/
def t2I (ta tb : TE) (k : Int → Int → Hp → Prop) : St → Hp → Prop := fun σ H => ta σ H fun x H1 => tb σ H1 fun y H2 => ∃ i j, x = .int i ∧ y = .int j ∧ k i j H2
def tAdd (ta tb : TE) : TE := fun σ H Q => t2I ta tb (fun i j H2 => Q (.int (i + j)) H2) σ H
def tSub (ta tb : TE) : TE := fun σ H Q => t2I ta tb (fun i j H2 => Q (.int (i - j)) H2) σ H
/-- the left factor below 2^64 -/
def tMul (ta tb : TE) : TE := fun σ H Q => t2I ta tb (fun i j H2 => (-(2 ^ 64) < i ∧ i < 2 ^ 64) ∧ Q (.int (i * j)) H2) σ H
variable {a b : Expr} {ta tb : TE} {pos : Pos}
/-! ### comparisons -/
def PC (X : Cx) (op : CmpOp) (a b : Expr) (t : TE) : Prop :=
  ∀ (pins : List (Addr × Obj)) (s : Shared) (σ : St) (H : Hp) (Q : VK), Inv X pins σ H s → t σ H Q →
    wpAny (model X.prog X.w) X.A (eval a X.env) (fun v s₁ => wpAny (model X.prog X.w) X.A (eval b X.env) (fun u s₂ => wpAny (model X.prog X.w) X.A (compareOp op v u) (EP X pins σ Q) X.xe s₂) X.xe s₁) X.xe s
def tCmp (p : Int → Int → Bool) (ta tb : TE) : TE := fun σ H Q => t2I ta tb (fun i j H2 => Q (.bl (p i j)) H2) σ H
abbrev tLt : TE → TE → TE := tCmp fun i j => decide (i < j)
abbrev tLe : TE → TE → TE := tCmp fun i j => decide (i ≤ j)
abbrev tGt : TE → TE → TE := tCmp fun i j => decide (j < i)
abbrev tGe : TE → TE → TE := tCmp fun i j => decide (j ≤ i)
abbrev tEqI : TE → TE → TE := tCmp fun i j => decide (i = j)
abbrev tNeI : TE → TE → TE := tCmp fun i j => !decide (i = j)
/-- is None -/
def tIsN (ta : TE) : TE := fun σ H Q => ta σ H fun x H1 => Q (.bl (decide (x = .non))) H1
def tNotN (ta : TE) : TE := fun σ H Q => ta σ H fun x H1 => Q (.bl (!decide (x = .non))) H1
/-- a comparison as a value, as a test -/
def tB (t : TE) : TT := fun σ H Q => t σ H fun x H1 => ∃ c, x = .bl c ∧ Q c H1
/-- an expression whose value is a bool, as a test -/
theorem pt_val {e : Expr} {t : TE} (h : PE X e t) (he : ∀ whole, isTrue e X.env whole = (do let v ← whole; standAt e.pos; holding [v] (truthy v)) := by intro _; rfl) : PT X e (tB t) := by
  intro pins s σ H Q I hw
  refine isTrue_plain (thn (h pins s σ H _ I hw) fun v s1 ⟨x, H1, I1, r1, q1⟩ => ?_) (he _)
  obtain ⟨d, rfl, q⟩ := q1
  cases r1
  exact wpAny_truthy_bool ⟨H1, I1, q⟩

/-! ### and, or, not -/
variable {tA tB' : TT} {rest : List Expr}
def tAnd (t u : TT) : TT := fun σ H Q => t σ H fun c H1 => if c = true then u σ H1 Q else Q false H1
def tOr (t u : TT) : TT := fun σ H Q => t σ H fun c H1 => if c = true then Q true H1 else u σ H1 Q
def tNot (t : TT) : TT := fun σ H Q => t σ H fun c H1 => Q (!c) H1
theorem pw_and1 (ha : PT X a tA) : PW X (.BoolOp .And [a] pos) tA := by
  intro wh pins s σ H Q I h
  refine isTrue_and (thn (ha pins s σ H Q I h) fun c s1 e => ?_)
  cases c with
  | true => exact isTrue_and_nil e
  | false => exact e
theorem pw_or1 (ha : PT X a tA) : PW X (.BoolOp .Or [a] pos) tA := by
  intro wh pins s σ H Q I h
  refine isTrue_or (thn (ha pins s σ H Q I h) fun c s1 e => ?_)
  cases c with
  | false => exact isTrue_or_nil e
  | true => exact e
theorem pw_and (ha : PT X a tA) (hb : PW X (.BoolOp .And (b :: rest) pos) tB') : PW X (.BoolOp .And (a :: b :: rest) pos) (tAnd tA tB') := by
  intro wh pins s σ H Q I h
  refine isTrue_and (thn (ha pins s σ H _ I h) fun c s1 ⟨H1, I1, q1⟩ => ?_)
  cases c with
  | true => exact hb wh pins s1 σ H1 Q I1 q1
  | false => exact ⟨H1, I1, q1⟩
theorem pw_or (ha : PT X a tA) (hb : PW X (.BoolOp .Or (b :: rest) pos) tB') : PW X (.BoolOp .Or (a :: b :: rest) pos) (tOr tA tB') := by
  intro wh pins s σ H Q I h
  refine isTrue_or (thn (ha pins s σ H _ I h) fun c s1 ⟨H1, I1, q1⟩ => ?_)
  cases c with
  | true => exact ⟨H1, I1, q1⟩
  | false => exact hb wh pins s1 σ H1 Q I1 q1
theorem pt_not (ha : PT X a tA) : PT X (.UnaryOp .Not a pos) (tNot tA) := by
  intro pins s σ H Q I h
  exact isTrue_not (ha pins s σ H (fun c H1 => Q (!c) H1) I h)
/-- .. as values (bools) -/
def tAndV (ta tb : TE) : TE := fun σ H Q => ta σ H fun x H1 => ∃ c, x = .bl c ∧ if c = true then tb σ H1 Q else Q (.bl false) H1
def tOrV (ta tb : TE) : TE := fun σ H Q => ta σ H fun x H1 => ∃ c, x = .bl c ∧ if c = true then Q (.bl true) H1 else tb σ H1 Q
def tNotV (ta : TE) : TE := fun σ H Q => ta σ H fun x H1 => ∃ c, x = .bl c ∧ Q (.bl (!c)) H1
theorem pe_one {op} {t : TE} (h : PE X a t) : PE X (.BoolOp op [a] pos) t := fun pins s σ H Q I hw => BoolOp_one (h pins s σ H Q I hw)
theorem pe_and (ha : PE X a ta) (hb : PE X (.BoolOp .And (b :: rest) pos) tb) : PE X (.BoolOp .And (a :: b :: rest) pos) (tAndV ta tb) := by
  intro pins s σ H Q I h
  refine BoolOp_and (thn (ha pins s σ H _ I h) fun v s1 ⟨x, H1, I1, r1, q1⟩ => ?_)
  obtain ⟨c, rfl, q1⟩ := q1
  cases r1
  refine wpAny_truthy_bool ?_
  cases c with
  | true => exact hb pins s1 σ H1 Q I1 q1
  | false => exact ⟨.bl false, H1, I1, rfl, q1⟩
theorem pe_not (ha : PE X a ta) : PE X (.UnaryOp .Not a pos) (tNotV ta) := by
  intro pins s σ H Q I h
  refine UnaryOp_ (thn (ha pins s σ H _ I h) fun v s1 ⟨x, H1, I1, r1, q1⟩ => ?_)
  obtain ⟨c, rfl, q1⟩ := q1
  cases r1
  exact not_of (wpAny_truthy_bool ⟨.bl (!c), H1, I1, rfl, q1⟩)
/-- a if t else b -/
def tIf (t : TT) (ta tb : TE) : TE := fun σ H Q => t σ H fun c H1 => if c = true then ta σ H1 Q else tb σ H1 Q
theorem pe_ifExp {c : Expr} (hc : PT X c tA) (ha : PE X a ta) (hb : PE X b tb) : PE X (.IfExp c a b pos) (tIf tA ta tb) := by
  intro pins s σ H Q I h
  refine wpAny_IfExp (thn (hc pins s σ H _ I h) fun d s1 ⟨H1, I1, q1⟩ => ?_)
  cases d with
  | true => exact ha pins s1 σ H1 Q I1 q1
  | false => exact hb pins s1 σ H1 Q I1 q1
end
end L2

namespace L2
open PySem PySem.Spec PyProof.Rows

/-! ### a list, a tuple that is read: tracked, frozen, or an object of the module -/
def SqL (K : PySem.W.Frag) (H : Hp) (a : Addr) (xs : List V) : Prop :=
  Rd H a (.lst xs) ∨
    ∃ (o : Obj) (its : Array Value) (n : Nat), K.lookup a = some o ∧ o.cls = .type "list" ∧ o.dict = none ∧ o.data = .seq its n ∧ its.size ≤ sizeLine ∧ Vals xs its.toList
def SqT (K : PySem.W.Frag) (H : Hp) (a : Addr) (xs : List V) : Prop :=
  Rd H a (.tup xs) ∨
    ∃ (o : Obj) (its : Array Value) (n : Nat), K.lookup a = some o ∧ o.cls = .type "tuple" ∧ o.data = .seq its n ∧ its.size ≤ sizeLine ∧ Vals xs its.toList
def absV : Value → Option V
  | .none => some .non
  | .bool b => some (.bl b)
  | .int i _ => some (.int i)
  | .str x _ => some (.str x)
  | .bytes b _ => some (.byt b)
  | .float b _ => some (.flt b)
  | .ref a => some (.ref a)
  | .type n => some (.ty n)
  | _ => none
theorem RelV.abs {x : V} {u : Value} (r : RelV x u) : absV u = some x := by
  cases x with
  | non => cases r; rfl
  | bl _ => cases r; rfl
  | int _ => obtain ⟨t, rfl⟩ := r; rfl
  | str _ => obtain ⟨t, rfl⟩ := r; rfl
  | byt _ => obtain ⟨t, rfl⟩ := r; rfl
  | flt _ => obtain ⟨t, rfl⟩ := r; rfl
  | ref _ => cases r; rfl
  | ty _ => cases r; rfl
theorem RelV.inj {x y : V} {u : Value} (r : RelV x u) (q : RelV y u) : x = y := Option.some.inj (r.abs.symm.trans q.abs)
theorem Vals.inj : ∀ {xs ys : List V} {us : List Value}, Vals xs us → Vals ys us → xs = ys
  | _, _, _, .nil, .nil => rfl
  | _, _, _, .cons r t, .cons r' t' => by rw [r.inj r', Vals.inj t t']
section
variable {X : Cx} {pins : List (Addr × Obj)} {σ : St} {H : Hp} {s : Shared} {a : Addr} {xs ys : List V}
theorem SqL.of {K : PySem.W.Frag} (h : H a = some (.lst xs)) : SqL K H a xs := .inl (.inl h)
theorem SqT.of {K : PySem.W.Frag} (h : H a = some (.tup xs)) : SqT K H a xs := .inl (.inl h)
theorem Inv.list (I : Inv X pins σ H s) (h : SqL X.K H a xs) : ∃ its : List Value, Vals xs its ∧ PlainL s.heap a its.toArray ∧ xs.length ≤ sizeLine := by
  rcases h with h | ⟨o, its, n, hk, hc, hd, hs, hz, r⟩
  · obtain ⟨z, its, n, r, e⟩ := h.ok I.hok
    exact ⟨its, r, ⟨_, n, e, rfl, rfl, rfl⟩, z⟩
  · refine ⟨its.toList, r, ⟨o, n, I.kIn a o hk, hc, hd, by simpa using hs⟩, ?_⟩
    have e := r.length
    simp only [Array.length_toList] at e
    omega
theorem Inv.tuple (I : Inv X pins σ H s) (h : SqT X.K H a xs) : ∃ its : List Value, Vals xs its ∧ IsTup s.heap a its.toArray ∧ xs.length ≤ sizeLine := by
  rcases h with h | ⟨o, its, n, hk, hc, hs, hz, r⟩
  · obtain ⟨z, its, r, p⟩ := h.ok I.hok
    exact ⟨its, r, p, z⟩
  · refine ⟨its.toList, r, ⟨o, I.kIn a o hk, hc, n, by simpa using hs⟩, ?_⟩
    have e := r.length
    simp only [Array.length_toList] at e
    omega
theorem Inv.list_inj (I : Inv X pins σ H s) (h : SqL X.K H a xs) (h' : SqL X.K H a ys) : xs = ys := by
  obtain ⟨its, r, ⟨o, n, e, _, _, d⟩, _⟩ := I.list h
  obtain ⟨its', r', ⟨o', n', e', _, _, d'⟩, _⟩ := I.list h'
  rw [e] at e'; cases e'
  rw [d] at d'
  injection d' with d1 _
  have : its = its' := by simpa using congrArg Array.toList d1
  subst this
  exact r.inj r'
theorem Inv.tuple_inj (I : Inv X pins σ H s) (h : SqT X.K H a xs) (h' : SqT X.K H a ys) : xs = ys := by
  obtain ⟨its, r, ⟨o, e, _, n, d⟩, _⟩ := I.tuple h
  obtain ⟨its', r', ⟨o', e', _, n', d'⟩, _⟩ := I.tuple h'
  rw [e] at e'; cases e'
  rw [d] at d'
  injection d' with d1 _
  have : its = its' := by simpa using congrArg Array.toList d1
  subst this
  exact r.inj r'
end

/-! ### another wish about exceptions -/
abbrev Cx.wish (X : Cx) (E : Value → Shared → Prop) : Cx := { X with xe := E }
/-- no exception leaves -/
abbrev Cx.nox (X : Cx) : Cx := X.wish fun _ _ => False
theorem Cx.Ok.wish {X : Cx} (ok : X.Ok) (E : Value → Shared → Prop) : (X.wish E).Ok :=
  ⟨ok.mod, ok.kind, ok.glob, ok.blt, ok.above, ok.inj, ok.has, ok.cab, ok.hd, ok.frames, ok.stk, ok.exf, ok.bs, ok.bsz, ok.noex, ok.exfs, ok.funs, ok.frf⟩
theorem Cx.Ok.unwish {X : Cx} {E : Value → Shared → Prop} (ok : (X.wish E).Ok) : X.Ok :=
  ⟨ok.mod, ok.kind, ok.glob, ok.blt, ok.above, ok.inj, ok.has, ok.cab, ok.hd, ok.frames, ok.stk, ok.exf, ok.bs, ok.bsz, ok.noex, ok.exfs, ok.funs, ok.frf⟩
section
variable {X : Cx} {pins : List (Addr × Obj)} {σ : St} {H : Hp} {s : Shared} {E : Value → Shared → Prop}
theorem Inv.wish (I : Inv X pins σ H s) (E : Value → Shared → Prop) : Inv (X.wish E) pins σ H s := ⟨I.ok.wish E, I.os, I.bare, I.base, I.loc, I.cell, I.free, I.freeC, I.pin, I.hok, I.len⟩
theorem Inv.unwish (I : Inv (X.wish E) pins σ H s) : Inv X pins σ H s := ⟨I.ok.unwish, I.os, I.bare, I.base, I.loc, I.cell, I.free, I.freeC, I.pin, I.hok, I.len⟩
theorem SP.unwish {D : Ends} {f : Flow} {s' : Shared} (h : SP (X.wish E) pins D f s') : SP X pins D f s' := by
  cases f with
  | next => obtain ⟨σ', H', I, q⟩ := h; exact ⟨σ', H', I.unwish, q⟩
  | brk => obtain ⟨σ', H', I, q⟩ := h; exact ⟨σ', H', I.unwish, q⟩
  | cont => obtain ⟨σ', H', I, q⟩ := h; exact ⟨σ', H', I.unwish, q⟩
  | ret u => obtain ⟨v, σ', H', I, r, q⟩ := h; exact ⟨v, σ', H', I.unwish, r, q⟩
theorem PSs.nox {st : List Stmt} {t : TS} (h : PSs X.nox st t) : PSs X st t := fun pins s σ H D I hw =>
  wpAny_mono (h pins s σ H D (I.wish _) hw) (fun _ _ q => q.unwish) fun _ _ z => False.elim z
end

/-! ### blocks and small statements -/
section
variable {X : Cx} {st : Stmt} {rest : List Stmt} {t u : TS} {e : Expr} {te : TE} {pos : Pos}
def tNext : TS := fun D σ H => D.nx σ H
def tSeq (t u : TS) : TS := fun D σ H => t { D with nx := u D } σ H
theorem pss_nil : PSs X [] tNext := fun _ _ σ H _ I h => wpAny_execs_nil ⟨σ, H, I, h⟩
theorem pss_cons (h1 : PS X st t) (h2 : PSs X rest u) : PSs X (st :: rest) (tSeq t u) := by
  intro pins s σ H D I h
  refine wpAny_execs_cons (thn (h1 pins s σ H { D with nx := u D } I h) fun f s1 q => ?_)
  cases f with
  | next =>
    obtain ⟨σ', H', I', q⟩ := q
    exact h2 pins s1 σ' H' D I' q
  | ret v => exact q
  | brk => exact q
  | cont => exact q
theorem pss_one (h1 : PS X st t) : PSs X [st] t := by
  intro pins s σ H D I h
  refine wpAny_execs_cons (thn (h1 pins s σ H D I h) fun f s1 q => ?_)
  cases f with
  | next => exact wpAny_execs_nil q
  | ret v => exact q
  | brk => exact q
  | cont => exact q
def tBreak : TS := fun D σ H => D.bk σ H
def tCont : TS := fun D σ H => D.ct σ H
/-- in a def's body nothing is shown -/
theorem Inv.quiet {pins : List (Addr × Obj)} {σ : St} {H : Hp} {s : Shared} (I : Inv X pins σ H s) : interactive X.env = false := by simp [interactive, I.ok.kind]
/-- an expression whose value is dropped -/
def tDrop (te : TE) : TS := fun D σ H => te σ H fun _ H1 => D.nx σ H1
theorem ps_expr (he : PE X e te) (hs : swapsWith e none pos.line X.env = pure false := by rfl) : PS X (.Expr e pos) (tDrop te) := by
  intro pins s σ H D I h
  exact wpAny_Expr_any (thn (he pins s σ H _ I h) fun v s1 ⟨x, H1, I1, r1, q1⟩ => ⟨σ, H1, I1, q1⟩) I.quiet hs
def tRet (te : TE) : TS := fun D σ H => te σ H D.rt
theorem ps_ret (he : PE X e te) : PS X (.Return (some e) pos) (tRet te) := by
  intro pins s σ H D I h
  exact wpAny_Return_some (thn (he pins s σ H _ I h) fun v s1 ⟨x, H1, I1, r1, q1⟩ => ⟨x, σ, H1, I1, r1, q1⟩)
def tRetN : TS := fun D _ H => D.rt .non H
def tIfS (c : TT) (t u : TS) : TS := fun D σ H => c σ H fun b H1 => if b = true then t D σ H1 else u D σ H1
theorem ps_if {c : Expr} {a b : List Stmt} {tc : TT} (hc : PT X c tc) (ha : PSs X a t) (hb : PSs X b u) : PS X (.If c a b pos) (tIfS tc t u) := by
  intro pins s σ H D I h
  refine wpAny_If (thn (hc pins s σ H _ I h) fun d s1 ⟨H1, I1, q1⟩ => ?_)
  cases d with
  | true => exact ha pins s1 σ H1 D I1 q1
  | false => exact hb pins s1 σ H1 D I1 q1
/-- code that the proof never comes to -/
def tNever : TS := fun _ _ _ => False
end

/-! ### targets -/
abbrev TG := V → St → Hp → (St → Hp → Prop) → Prop
abbrev TGs := List V → St → Hp → (St → Hp → Prop) → Prop
def PG (X : Cx) (target : Expr) (t : TG) : Prop :=
  ∀ (pins : List (Addr × Obj)) (s : Shared) (σ : St) (H : Hp) (v : V) (u : Value) (Q : St → Hp → Prop), Inv X pins σ H s → RelV v u → t v σ H Q →
    wpAny (model X.prog X.w) X.A (assign target X.env u) (fun _ s' => ∃ σ' H', Inv X pins σ' H' s' ∧ Q σ' H') X.xe s
/-- several targets, one after another -/
def PGs (X : Cx) (ts : List Expr) (t : TGs) : Prop :=
  ∀ (pins : List (Addr × Obj)) (s : Shared) (σ : St) (H : Hp) (vs : List V) (us : List Value) (Q : St → Hp → Prop), Inv X pins σ H s → Vals vs us → t vs σ H Q →
    wpAny (model X.prog X.w) X.A (assignInOrder ((assignEach ts X.env).map (·.2)) us) (fun _ s' => ∃ σ' H', Inv X pins σ' H' s' ∧ Q σ' H') X.xe s
/-- o[i] = v, by values -/
abbrev TSet := V → V → V → Hp → (Hp → Prop) → Prop
def PSet (X : Cx) (t : TSet) : Prop :=
  ∀ (pins : List (Addr × Obj)) (s : Shared) (σ : St) (H : Hp) (o i v : V) (ov iv u : Value) (Q : Hp → Prop), Inv X pins σ H s → RelV o ov → RelV i iv → RelV v u → t o i v H Q →
    wpAny (model X.prog X.w) X.A (setItem ov iv u) (fun _ s' => ∃ H', Inv X pins σ H' s' ∧ Q H') X.xe s
/-- a op= b, by values -/
abbrev TIp := V → V → Hp → VK → Prop
def PIp (X : Cx) (op : Operator) (t : TIp) : Prop :=
  ∀ (pins : List (Addr × Obj)) (s : Shared) (σ : St) (H : Hp) (x y : V) (v u : Value) (Q : VK), Inv X pins σ H s → RelV x v → RelV y u → t x y H Q →
    wpAny (model X.prog X.w) X.A (inplaceOp op v u) (EP X pins σ Q) X.xe s
section
variable {X : Cx} {pos : Pos}
def gName (i : Nat) : TG := fun v σ H Q => Q (σ.set i (some v)) H
theorem pg_name {i : Nat} {x : Str} (hN : X.N.Nodup) (hi : X.N[i]? = some x) (hx : Loc X.env.scope x) (hf : X.fn x = true ∨ X.env.scope.names.lookup x = some .local := by first | exact .inl rfl | exact .inr rfl | assumption) : PG X (.Name x pos) (gName i) := by
  intro pins s σ H v u Q I r h
  exact wpAny_assign_Name (store_ok I hN hi hx r (fun s' I' => ⟨_, H, I', h⟩) hf)
def gNil : TGs := fun vs σ H Q => vs = [] ∧ Q σ H
def gCons (t : TG) (u : TGs) : TGs := fun vs σ H Q => ∃ v r, vs = v :: r ∧ t v σ H fun σ' H' => u r σ' H' Q
theorem pgs_nil : PGs X [] gNil := by
  intro pins s σ H vs us Q I r h
  obtain ⟨e, h⟩ := h
  subst e
  cases r
  exact assignInOrder_nil ⟨σ, H, I, h⟩
theorem pgs_cons {e : Expr} {es : List Expr} {t : TG} {u : TGs} (h1 : PG X e t) (h2 : PGs X es u)
    (hs : (assignEach (e :: es) X.env).map (·.2) = assign e X.env :: (assignEach es X.env).map (·.2) := by rfl) : PGs X (e :: es) (gCons t u) := by
  intro pins s σ H vs us Q I r h
  obtain ⟨v, vr, e1, h⟩ := h
  subst e1
  cases r with
  | cons r rr =>
    rw [hs]
    refine assignInOrder_cons (thn (h1 pins s σ H _ _ _ I r h) fun _ s1 ⟨σ1, H1, I1, q1⟩ => ?_)
    exact h2 pins s1 σ1 H1 _ _ Q I1 rr q1
/-- (a, b, ..) = a tuple of that length -/
def gTup (K : PySem.W.Frag) (n : Nat) (t : TGs) : TG := fun v σ H Q => ∃ a xs, v = .ref a ∧ SqT K H a xs ∧ xs.length = n ∧ t xs σ H Q
theorem pg_tup {es : List Expr} {k : Nat} {t : TGs} {n : Nat} (hc : X.calm = true) (h : PGs X es t)
    (hn : (assignEach es X.env).length = n := by rfl) (hst : (assignEach es X.env).findIdx? (·.1) = none := by rfl) : PG X (.Tuple es k pos) (gTup X.K n t) := by
  intro pins s σ H v u Q I r hw
  obtain ⟨a, xs, e1, hq, hl, hw⟩ := hw
  subst e1
  cases r
  obtain ⟨its, rv, ht, hz⟩ := I.tuple hq
  refine assign_Tuple_tuple (I.ok.hd hc) ht (by simp [hn, ← hl, rv.length]) hst fun h' hx => ?_
  have I1 : Inv X pins σ H { s with heap := h' } := I.kept (t' := s.toks) fun b o e => hx b o (Nat.ne_of_lt (Heap.lt_size e)) e
  exact h pins _ σ H xs _ Q I1 (by simpa using rv) hw
/-- o[i] = .. -/
def gSub (to ti : TE) (t : TSet) : TG := fun v σ H Q => to σ H fun o H1 => ti σ H1 fun i H2 => t o i v H2 fun H3 => Q σ H3
/-- target = value -/
def tAsg (te : TE) (g : TG) : TS := fun D σ H => te σ H fun x H1 => g x σ H1 D.nx
/-- name = value -/
theorem ps_set {i : Nat} {x : Str} {e : Expr} {te : TE} {pos' : Pos} (hN : X.N.Nodup) (hi : X.N[i]? = some x) (hx : Loc X.env.scope x) (he : PE X e te) (hs : swapsWith e (some (.Name x pos')) pos.line X.env = pure false := by rfl) (hf : X.fn x = true ∨ X.env.scope.names.lookup x = some .local := by first | exact .inl rfl | exact .inr rfl | assumption) :
    PS X (.Assign [.Name x pos'] e pos) (tAsg te (gName i)) := by
  intro pins s σ H D I h
  refine wpAny_Assign_Name (thn (he pins s σ H _ I h) fun v s1 ⟨y, H1, I1, r1, q1⟩ => ?_) hs
  exact store_ok I1 hN hi hx r1 (fun s2 I2 => ⟨_, H1, I2, q1⟩) hf
/-- a, b = x, y with plain local names: stored from the right; the pair itself is not tracked (the opening rows as in PyProof/Rows/TupAssign.lean:23) -/
def tPar (i j : Nat) (ta : TA) : TS := fun D σ H => ta σ H fun vs H1 => ∃ v w, vs = [v, w] ∧ D.nx ((σ.set i (some v)).set j (some w)) H1
/-- name op= e -/
def tAug (i : Nat) (te : TE) (ti : TIp) : TS := fun D σ H => ∃ x, σ[i]? = some (some x) ∧ te σ H fun y H1 => ti x y H1 fun z H2 => D.nx (σ.set i (some z)) H2
/-- o[i] op= e -/
def tAugS (to ti te : TE) (tget : V → V → Hp → VK → Prop) (tip : TIp) (tset : TSet) : TS := fun D σ H => to σ H fun o H1 => ti σ H1 fun i H2 => tget o i H2 fun x H3 => te σ H3 fun y H4 => tip x y H4 fun z H5 => tset o i z H5 fun H6 => D.nx σ H6
/-- o[i], by values -/
def PGet (X : Cx) (t : V → V → Hp → VK → Prop) : Prop :=
  ∀ (pins : List (Addr × Obj)) (s : Shared) (σ : St) (H : Hp) (o i : V) (ov iv : Value) (Q : VK), Inv X pins σ H s → RelV o ov → RelV i iv → t o i H Q →
    wpAny (model X.prog X.w) X.A (getItem ov iv) (EP X pins σ Q) X.xe s
/-- ints -/
def ipI (f : Int → Int → Int) : TIp := fun x y H Q => ∃ i j, x = .int i ∧ y = .int j ∧ Q (.int (f i j)) H
end

/-! ### while -/
section
variable {X : Cx} {pos : Pos}
/-- the invariant W with its measure -/
def tWhile (c : TT) (tb : TS) : TS := fun D σ H => ∃ W : Nat → St → Hp → Prop, (∃ m, W m σ H) ∧ ∀ m σ H, W m σ H →
  c σ H fun b H1 => if b = true then ∃ N : St → Hp → Prop, (∀ σ' H', N σ' H' → ∃ m', m' < m ∧ W m' σ' H') ∧ tb { D with nx := N, ct := N, bk := D.nx } σ H1 else D.nx σ H1
theorem ps_while {c : Expr} {body : List Stmt} {tc : TT} {tb : TS} (hp : PassesOwn (model X.prog X.w) X.A X.env X.xe) (hc : PT X c tc) (hb : PSs X body tb) : PS X (.While c body [] pos) (tWhile tc tb) := by
  intro pins s σ H D I h
  obtain ⟨W, ⟨m0, w0⟩, turn⟩ := h
  refine wpAny_While (codeAny_whileLoop (fun n s' => ∃ σ' H', Inv X pins σ' H' s' ∧ W n σ' H') ?_ m0 ⟨σ, H, I, w0⟩)
  rintro n s1 ⟨σ1, H1, I1, w1⟩
  refine wpAny_passesOwn hp (thn (hc pins s1 σ1 H1 _ I1 (turn n σ1 H1 w1)) fun b s2 ⟨H2, I2, q2⟩ => ?_)
  cases b with
  | true =>
    obtain ⟨N, hN, q2⟩ := q2
    rw [if_pos rfl]
    refine wpAny_passesOwn hp (thn (hb pins s2 σ1 H2 _ I2 q2) fun f s3 q3 => ?_)
    cases f with
    | next =>
      obtain ⟨σ3, H3, I3, n3⟩ := q3
      obtain ⟨m', hm, w3⟩ := hN σ3 H3 n3
      exact ⟨m', hm, σ3, H3, I3, w3⟩
    | cont =>
      obtain ⟨σ3, H3, I3, n3⟩ := q3
      obtain ⟨m', hm, w3⟩ := hN σ3 H3 n3
      exact ⟨m', hm, σ3, H3, I3, w3⟩
    | brk => exact q3
    | ret v => exact q3
  | false =>
    rw [if_neg Bool.false_ne_true]
    exact wpAny_execs_nil ⟨σ1, H2, I2, q2⟩
end

/-! ### what a loop or a comprehension walks -/
/-- at turn i: it yields x (the heap may grow), or it stops -/
structure It where
  go : Nat → Hp → Prop
  yld : Nat → Hp → V → Hp → Prop
  stop : Nat → Hp → Prop
/-- the iterator's own objects may turn: they are not the frame's, not pinned, younger than the entry (or a comprehension's own) -/
def FpOk (X : Cx) (pins : List (Addr × Obj)) (H : Hp) (b : Addr) : Prop :=
  H b = none ∧ b ≠ X.env.locals ∧ b ∉ X.fs ∧ (b ∈ X.ex ∨ X.s₀.heap.objs.size ≤ b) ∧ (∀ x c, X.env.cells.lookup x = some c → c ≠ b) ∧ ∀ p ∈ X.pn ++ pins, p.1 ≠ b
theorem Inv.fpOk {X : Cx} {pins : List (Addr × Obj)} {σ : St} {H H' : Hp} {s : Shared} {b : Addr} (I : Inv X pins σ H s) (hb : s.heap.objs.size ≤ b) (hn : H' b = none) : FpOk X pins H' b := by
  refine ⟨hn, Nat.ne_of_gt (Nat.lt_of_lt_of_le I.lt hb), I.nofs hb, .inr (Nat.le_trans I.sz hb), fun x c e z => ?_, fun p hp z => ?_⟩
  · obtain ⟨v, q⟩ := I.cell x c e
    exact absurd (Nat.lt_of_lt_of_le q.lt (by rw [z]; exact hb)) (Nat.lt_irrefl _)
  · exact absurd (Nat.lt_of_lt_of_le (Heap.lt_size (I.pin p hp).1) (by rw [z]; exact hb)) (Nat.lt_irrefl _)
structure Turn (P : Program) (w : World) (K : PySem.W.Frag) (tg : Expr) (J : It) (fp : List Addr) (it : Addr) (tn : Nat → Heap → Prop) : Prop where
  mem : it ∈ fp
  obj : ∀ i h, tn i h → ∀ b ∈ fp, ∃ o, h.get? b = some o ∧ ∀ v, o.data ≠ .cell v
  keep : ∀ i h h', tn i h → (∀ b ∈ fp, ∀ o, h.get? b = some o → h'.get? b = some o) → tn i h'
  item : ∀ (X : Cx), X.prog = P → X.w = w → X.K = K → X.calm = true → ∀ (i : Nat) (pins : List (Addr × Obj)) (s : Shared) (σ : St) (H : Hp) (E : Value → Shared → Prop), Inv X pins σ H s → (∀ b ∈ fp, FpOk X pins H b) → tn i s.heap → J.go i H →
    wpAny (model P w) X.A (pyNext (.ref it)) (fun r s1 => ∃ u, r = some u ∧
      wpAny (model P w) X.A (letOwnedTupleGo tg (.ref it) u) (fun _ s2 => ∃ x H', Inv X pins σ H' s2 ∧ RelV x u ∧ J.yld i H x H' ∧ tn (i + 1) s2.heap ∧ ∀ b ∈ fp, H' b = none) E s1) E s
  done : ∀ (X : Cx), X.prog = P → X.w = w → X.K = K → X.calm = true → ∀ (i : Nat) (pins : List (Addr × Obj)) (s : Shared) (σ : St) (H : Hp) (E : Value → Shared → Prop), Inv X pins σ H s → (∀ b ∈ fp, FpOk X pins H b) → tn i s.heap → J.stop i H →
    wpAny (model P w) X.A (pyNext (.ref it)) (fun r s1 => r = none ∧ Inv X pins σ H s1) E s
  self : ∀ (A : Around) (i : Nat) (s : Shared) (Q : Value → Shared → Prop) (E : Value → Shared → Prop), tn i s.heap → Q (.ref it) s → wpAny (model P w) A (pyIter (.ref it)) Q E s
abbrev TI := St → Hp → (It → Hp → Prop) → Prop
/-- an iterator has come -/
def PIE (X : Cx) (pins : List (Addr × Obj)) (σ : St) (tg : Expr) (R : It → Hp → Prop) (itv : Value) (s2 : Shared) : Prop :=
  ∃ (it : Addr) (fp : List Addr) (tn : Nat → Heap → Prop) (J : It) (H' : Hp), itv = .ref it ∧ Inv X pins σ H' s2 ∧ Turn X.prog X.w X.K tg J fp it tn ∧ tn 0 s2.heap ∧ (∀ b ∈ fp, FpOk X pins H' b) ∧ R J H'
def PI (X : Cx) (tg iter : Expr) (wi : TI) : Prop :=
  ∀ (pins : List (Addr × Obj)) (s : Shared) (σ : St) (H : Hp) (R : It → Hp → Prop), Inv X pins σ H s → wi σ H R →
    wpAny (model X.prog X.w) X.A (eval iter X.env) (fun v s1 => wpAny (model X.prog X.w) X.A (pyIter v) (PIE X pins σ tg R) X.xe s1) X.xe s

/-- the step ahead of the store is nothing for an iterator that keeps no tuple -/
theorem go_of {M : Model} {A : Around} {E : Value → Shared → Prop} {s : Shared} {tg : Expr} {it : Addr} {u : Value} {o : Obj} {n : String} {vs : Array Value} {Q : Unit → Shared → Prop} (ho : s.heap.get? it = some o) (hc : o.cls = .type n) (hd : o.data = .fields vs)
    (hn : ["enumerate", "zip", "dict_itemiterator", "dict_reverseitemiterator", "odict_iterator", "itertools.zip_longest", "itertools.pairwise"].contains n = false) (hQ : Q () s) : wpAny M A (letOwnedTupleGo tg (.ref it) u) Q E s := by
  unfold letOwnedTupleGo
  cases tg <;> first
    | exact wpAny_pure hQ
    | (cases u <;> first
        | exact wpAny_pure hQ
        | (refine wpAny_bind (wpAny_load ho ?_)
           rw [hc, hd]
           show wpAny M A (if (["enumerate", "zip", "dict_itemiterator", "dict_reverseitemiterator", "odict_iterator", "itertools.zip_longest", "itertools.pairwise"].contains n && vs[0]? == some (rawInt _)) = true then _ else _) Q E s
           rw [if_neg (by intro h; rw [hn, Bool.false_and] at h; cases h)]
           exact wpAny_pure hQ))

/-- the list at a, as it stands at each turn (a loop may append to it) -/
def Itl (K : PySem.W.Frag) (a : Addr) : It :=
  ⟨fun i H => ∃ xs x, SqL K H a xs ∧ xs[i]? = some x, fun i H x H' => H' = H ∧ ∀ xs, SqL K H a xs → xs[i]? = some x, fun i H => ∃ xs, SqL K H a xs ∧ xs.length ≤ i⟩
def Itt (K : PySem.W.Frag) (a : Addr) : It :=
  ⟨fun i H => ∃ xs x, SqT K H a xs ∧ xs[i]? = some x, fun i H x H' => H' = H ∧ ∀ xs, SqT K H a xs → xs[i]? = some x, fun i H => ∃ xs, SqT K H a xs ∧ xs.length ≤ i⟩
/-- lo, lo + 1, .. (n of them) -/
def Itr (lo : Int) (n : Nat) : It := ⟨fun i _ => i < n, fun i H x H' => H' = H ∧ x = .int (lo + i), fun i _ => n ≤ i⟩
theorem turn_list {P : Program} {w : World} {K : PySem.W.Frag} {tg : Expr} (a it : Addr) : Turn P w K tg (Itl K a) [it] it (fun i h => h.IsListIter it a i) where
  mem := by simp
  obj := fun i h st b hb => by
    have e : b = it := by simpa using hb
    subst e
    obtain ⟨o, e, c, d⟩ := st
    exact ⟨o, e, fun v z => by rw [d] at z; cases z⟩
  keep := fun i h h' st k => st.at fun o e => k it (by simp) o e
  item := by
    intro X hP hw hK hc i pins s σ H E I hf st hg
    subst hP hw hK
    obtain ⟨xs, x, hq, hx⟩ := hg
    obtain ⟨its, rv, p, hz⟩ := I.list hq
    obtain ⟨u, hu, ru⟩ := rv.get hx
    obtain ⟨f0, f1, f2, f3, f4, f5⟩ := hf it (by simp)
    refine wpAny_pyNext_list_item st p.isList (x := u) (by simpa using hu) fun h' st' sb => ?_
    have I1 : Inv X pins σ H { s with heap := h' } := I.turned (t' := s.toks) (fun b o hb e => (sb.2 b hb).trans e) f0 f1 f3 f4 f5
    obtain ⟨o, e, c, d⟩ := id st'
    exact ⟨u, rfl, go_of (s := { s with heap := h' }) e c d (by decide) ⟨x, H, I1, ru, ⟨rfl, fun ys hy => by rw [I.list_inj hy hq]; exact hx⟩, st', fun b hb => (hf b hb).1⟩⟩
  done := by
    intro X hP hw hK hc i pins s σ H E I hf st hg
    subst hP hw hK
    obtain ⟨xs, hq, hx⟩ := hg
    obtain ⟨its, rv, p, hz⟩ := I.list hq
    obtain ⟨f0, f1, f2, f3, f4, f5⟩ := hf it (by simp)
    have hl := rv.length
    exact wpAny_pyNext_list_end (I.ok.hd hc) st p.isList (by simp; omega) fun h' eb => ⟨rfl, I.turned (t' := s.toks) (fun b o hb e => eb b o hb e) f0 f1 f3 f4 f5⟩
  self := fun _ _ _ _ _ st h => wpAny_pyIter_listiter st h
theorem turn_tuple {P : Program} {w : World} {K : PySem.W.Frag} {tg : Expr} (a it : Addr) : Turn P w K tg (Itt K a) [it] it (fun i h => h.IsTupleIter it a i) where
  mem := by simp
  obj := fun i h st b hb => by
    have e : b = it := by simpa using hb
    subst e
    obtain ⟨o, e, c, d⟩ := st
    exact ⟨o, e, fun v z => by rw [d] at z; cases z⟩
  keep := fun i h h' st k => st.at fun o e => k it (by simp) o e
  item := by
    intro X hP hw hK hc i pins s σ H E I hf st hg
    subst hP hw hK
    obtain ⟨xs, x, hq, hx⟩ := hg
    obtain ⟨its, rv, p, hz⟩ := I.tuple hq
    obtain ⟨u, hu, ru⟩ := rv.get hx
    obtain ⟨f0, f1, f2, f3, f4, f5⟩ := hf it (by simp)
    refine wpAny_pyNext_tuple_item st (show s.heap.IsTuple a its.toArray from p) (x := u) (by simpa using hu) fun h' st' sb => ?_
    have I1 : Inv X pins σ H { s with heap := h' } := I.turned (t' := s.toks) (fun b o hb e => (sb.2 b hb).trans e) f0 f1 f3 f4 f5
    obtain ⟨o, e, c, d⟩ := id st'
    exact ⟨u, rfl, go_of (s := { s with heap := h' }) e c d (by decide) ⟨x, H, I1, ru, ⟨rfl, fun ys hy => by rw [I.tuple_inj hy hq]; exact hx⟩, st', fun b hb => (hf b hb).1⟩⟩
  done := by
    intro X hP hw hK hc i pins s σ H E I hf st hg
    subst hP hw hK
    obtain ⟨xs, hq, hx⟩ := hg
    obtain ⟨its, rv, p, hz⟩ := I.tuple hq
    obtain ⟨f0, f1, f2, f3, f4, f5⟩ := hf it (by simp)
    have hl := rv.length
    exact wpAny_pyNext_tuple_end (I.ok.hd hc) st (show s.heap.IsTuple a its.toArray from p) (by simp; omega) fun h' eb => ⟨rfl, I.turned (t' := s.toks) (fun b o hb e => eb b o hb e) f0 f1 f3 f4 f5⟩
  self := fun _ _ _ _ _ st h => wpAny_pyIter_tupleiter st h
theorem turn_range {P : Program} {w : World} {K : PySem.W.Frag} {tg : Expr} (it : Addr) (lo : Int) (n : Nat) : Turn P w K tg (Itr lo n) [it] it (fun i h => IsRangeIter h it (lo + (i : Nat) * 1) ((n : Int) - (i : Nat)) 1) where
  mem := by simp
  obj := fun i h st b hb => by
    have e : b = it := by simpa using hb
    subst e
    exact ⟨_, st, fun v z => by
      have z' : Data.fields _ = Data.cell v := z
      cases z'⟩
  keep := fun i h h' st k => k it (by simp) _ st
  item := by
    intro X hP hw hK hc i pins s σ H E I hf st hg
    subst hP hw hK
    obtain ⟨f0, f1, f2, f3, f4, f5⟩ := hf it (by simp)
    have W := Walks.range (prog := X.prog) (w := X.w) (I.ok.hd hc) it lo 1 n
    refine W.item i s _ _ hg st fun v h' tk hv st' kk => ?_
    obtain ⟨t, rfl⟩ := hv
    have I1 : Inv X pins σ H { s with heap := h', toks := tk } := I.turned (fun b o hb e => kk b o (by simpa using hb) e) f0 f1 f3 f4 f5
    refine ⟨_, rfl, go_of (s := { s with heap := h', toks := tk }) (n := "range_iterator") st' rfl rfl (by decide) ⟨.int (lo + i), H, I1, ⟨t, ?_⟩, ⟨rfl, rfl⟩, st', fun b hb => (hf b hb).1⟩⟩
    rw [Int.mul_one]
  done := by
    intro X hP hw hK hc i pins s σ H E I hf st hg
    subst hP hw hK
    obtain ⟨f0, f1, f2, f3, f4, f5⟩ := hf it (by simp)
    exact wpAny_pyNext_range_end (I.ok.hd hc) st (by have : n ≤ i := hg; omega) fun h' eb => ⟨rfl, I.turned (t' := s.toks) (fun b o hb e => eb b o hb e) f0 f1 f3 f4 f5⟩
  self := fun _ _ _ _ _ st h => wpAny_pyIter_rangeiter st h
end L2

namespace L2
open PySem PySem.Spec PyProof.Rows
section
variable {X : Cx} {tg : Expr}
def iList (K : PySem.W.Frag) (tl : TE) : TI := fun σ H R => tl σ H fun x H1 => ∃ a, x = .ref a ∧ (∃ xs, SqL K H1 a xs) ∧ R (Itl K a) H1
def iTup (K : PySem.W.Frag) (tl : TE) : TI := fun σ H R => tl σ H fun x H1 => ∃ a, x = .ref a ∧ (∃ xs, SqT K H1 a xs) ∧ R (Itt K a) H1
theorem pi_list {l : Expr} {tl : TE} (hl : PE X l tl) : PI X tg l (iList X.K tl) := by
  intro pins s σ H R I h
  refine thn (hl pins s σ H _ I h) fun v s1 ⟨x, H1, I1, r1, q1⟩ => ?_
  obtain ⟨a, e, ⟨xs, hq⟩, q⟩ := q1
  subst e
  cases r1
  obtain ⟨its, rv, p, hz⟩ := I1.list hq
  refine wpAny_pyIter_list p.isList ?_
  refine ⟨s1.heap.objs.size, [s1.heap.objs.size], _, _, H1, rfl, I1.kept (t' := s1.toks) fun b o e => Heap.get?_push_of_some _ e, turn_list a _, ⟨_, Heap.get?_push_size _ rfl, rfl, rfl⟩, fun b hb => ?_, q⟩
  have e : b = s1.heap.objs.size := by simpa using hb
  subst e
  exact I1.fpOk (Nat.le_refl _) (I1.hok.fresh (Nat.le_refl _))
theorem pi_tup {l : Expr} {tl : TE} (hl : PE X l tl) : PI X tg l (iTup X.K tl) := by
  intro pins s σ H R I h
  refine thn (hl pins s σ H _ I h) fun v s1 ⟨x, H1, I1, r1, q1⟩ => ?_
  obtain ⟨a, e, ⟨xs, hq⟩, q⟩ := q1
  subst e
  cases r1
  obtain ⟨its, rv, p, hz⟩ := I1.tuple hq
  refine wpAny_pyIter_tuple (show s1.heap.IsTuple a its.toArray from p) ?_
  refine ⟨s1.heap.objs.size, [s1.heap.objs.size], _, _, H1, rfl, I1.kept (t' := s1.toks) fun b o e => Heap.get?_push_of_some _ e, turn_tuple a _, ⟨_, Heap.get?_push_size _ rfl, rfl, rfl⟩, fun b hb => ?_, q⟩
  have e : b = s1.heap.objs.size := by simpa using hb
  subst e
  exact I1.fpOk (Nat.le_refl _) (I1.hok.fresh (Nat.le_refl _))
/-- a range object just made, walked -/
theorem range_it {pins : List (Addr × Obj)} {σ : St} {H : Hp} {s : Shared} {R : It → Hp → Prop} {E : Value → Shared → Prop} {lo hi : Int} {t u v : Tok} {tk : Nat} (I : Inv X pins σ H s) (h1 : -(2 ^ 62) ≤ lo) (h2 : lo < 2 ^ 62) (h3 : -(2 ^ 62) ≤ hi) (h4 : hi < 2 ^ 62)
    (q : R (Itr lo (hi - lo).toNat) H) : wpAny (model X.prog X.w) X.A (pyIter (.ref s.heap.objs.size)) (PIE X pins σ tg R) E { s with heap := s.heap.push { cls := .type "range", data := .fields #[.int lo t, .int hi u, .int 1 v] }, toks := tk } := by
  refine wpAny_pyIter_range (IsRange.new ..) (small_one h1 h2 h3 h4) ?_
  have I1 : Inv X pins σ H { s with heap := s.heap.push { cls := .type "range", data := .fields #[.int lo t, .int hi u, .int 1 v] }, toks := tk } := I.kept fun b o e => Heap.get?_push_of_some _ e
  refine ⟨(s.heap.push { cls := .type "range", data := .fields #[.int lo t, .int hi u, .int 1 v] }).objs.size, [(s.heap.push { cls := .type "range", data := .fields #[.int lo t, .int hi u, .int 1 v] }).objs.size], _, _, H, rfl,
    I1.kept (t' := tk) fun b o e => Heap.get?_push_of_some _ e, turn_range _ lo (hi - lo).toNat, ?_, fun b hb => ?_, q⟩
  · have e1 : lo + ((0 : Nat) : Int) * 1 = lo := by simp
    have e2 : (((hi - lo).toNat : Nat) : Int) - ((0 : Nat) : Int) = Builtin.Range.rangeSize lo hi 1 := by rw [rangeSize_one]; split <;> omega
    show IsRangeIter _ _ (lo + ((0 : Nat) : Int) * 1) ((((hi - lo).toNat : Nat) : Int) - ((0 : Nat) : Int)) 1
    rw [e1, e2]
    exact Heap.get?_push_size _ rfl
  · have e : b = (s.heap.push { cls := .type "range", data := .fields #[.int lo t, .int hi u, .int 1 v] }).objs.size := by simpa using hb
    subst e
    exact I1.fpOk (Nat.le_refl _) (I1.hok.fresh (Nat.le_refl _))
def iRng1 (ta : TA) : TI := fun σ H R => ta σ H fun vs H1 => ∃ j : Int, vs = [.int j] ∧ -(2 ^ 62) ≤ j ∧ j < 2 ^ 62 ∧ R (Itr 0 j.toNat) H1
def iRng2 (ta : TA) : TI := fun σ H R => ta σ H fun vs H1 => ∃ i j : Int, vs = [.int i, .int j] ∧ (-(2 ^ 62) ≤ i ∧ i < 2 ^ 62 ∧ -(2 ^ 62) ≤ j ∧ j < 2 ^ 62) ∧ R (Itr i (j - i).toNat) H1
theorem pi_range1 {a : Expr} {ta : TA} {p pos : Pos} (hg : Gl X "range") (hm : X.mg "range" = none) (ha : PA X [a] ta) (hs : starEach [a] X.env = [(false, eval a X.env)] := by rfl) : PI X tg (.Call (.Name "range" p) [a] [] pos) (iRng1 ta) := by
  intro pins s σ H R I h
  refine Call_ (ld_blt I hg hm boot_range (PyProof.Rows.callWith_type1 (thn (ha pos pins s σ H _ I h) fun us s1 ⟨vs, H1, I1, r1, q1⟩ => ?_) hs rfl))
  obtain ⟨j, e, q1, q2, q⟩ := q1
  subst e
  cases r1 with
  | cons r rr =>
    cases rr
    obtain ⟨t, rfl⟩ := r
    exact call_range_1 (range_it I1 (by omega) (by omega) q1 q2 (by simpa using q))
/-! ### for -/
/-- W: the invariant by the turn and a measure; N: what the body is to reach -/
def tFor (wi : TI) (g : TG) (tb : TS) : TS := fun D σ H => wi σ H fun J H1 => ∃ W : Nat → Nat → St → Hp → Prop, (∃ m, W 0 m σ H1) ∧ ∀ i m σ H, W i m σ H →
  (J.stop i H ∧ D.nx σ H) ∨ (J.go i H ∧ ∃ N : St → Hp → Prop, (∀ σ' H', N σ' H' → ∃ m', m' < m ∧ W (i + 1) m' σ' H') ∧ ∀ x H', J.yld i H x H' → g x σ H' fun σ2 H2 => tb { D with nx := N, ct := N, bk := D.nx } σ2 H2)
/-- the records at fp as they stand -/
def pinsAt (fp : List Addr) (h : Heap) : List (Addr × Obj) := fp.filterMap fun b => (h.get? b).map fun o => (b, o)
theorem mem_pinsAt {fp : List Addr} {h : Heap} {b : Addr} {o : Obj} (hb : b ∈ fp) (e : h.get? b = some o) : (b, o) ∈ pinsAt fp h := List.mem_filterMap.mpr ⟨b, hb, by rw [e]; rfl⟩
theorem of_pinsAt {fp : List Addr} {h : Heap} {p : Addr × Obj} (hp : p ∈ pinsAt fp h) : p.1 ∈ fp ∧ h.get? p.1 = some p.2 := by
  obtain ⟨b, hb, e⟩ := List.mem_filterMap.mp hp
  cases q : h.get? b with
  | none => rw [q] at e; cases e
  | some o =>
    rw [q] at e
    have e' : (b, o) = p := Option.some.inj e
    subst e'
    exact ⟨hb, q⟩
theorem Inv.pinned {pins : List (Addr × Obj)} {σ : St} {H : Hp} {s : Shared} {fp : List Addr} (I : Inv X pins σ H s) (hf : ∀ b ∈ fp, FpOk X pins H b) (ho : ∀ b ∈ fp, ∃ o, s.heap.get? b = some o ∧ ∀ v, o.data ≠ .cell v) : Inv X (pins ++ pinsAt fp s.heap) σ H s :=
  I.pins_of fun p hp => (List.mem_append.mp hp).elim (fun z => I.pin p (List.mem_append_right _ z)) fun z => by
    obtain ⟨hb, e⟩ := of_pinsAt z
    obtain ⟨f0, f1, f2, _⟩ := hf p.1 hb
    obtain ⟨o, e', d⟩ := ho p.1 hb
    rw [e] at e'; cases e'
    exact ⟨e, f0, f1, f2, d⟩
theorem Inv.unpinned {pins pl : List (Addr × Obj)} {σ : St} {H : Hp} {s : Shared} (I : Inv X (pins ++ pl) σ H s) : Inv X pins σ H s := I.pins_of fun p hp => I.pin p (List.mem_append_right _ (List.mem_append_left _ hp))
theorem ps_for {iter : Expr} {body : List Stmt} {wi : TI} {g : TG} {tb : TS} {pos : Pos} (hp : PassesOwn (model X.prog X.w) X.A X.env X.xe) (hc : X.calm = true) (hi : PI X tg iter wi) (hg : PG X tg g) (hb : PSs X body tb)
    (hs : ∀ x, foldedSetIterable iter X.env x = pure x := by intro _; rfl) : PS X (.For tg iter body [] pos) (tFor wi g tb) := by
  intro pins s σ H D I h
  refine wpAny_For (thn (hi pins s σ H _ I h) fun v s1 h1 => thn h1 fun itv s2 h2 => ?_) hs
  obtain ⟨it, fp, tn, J, H2, e, I2, T, st2, f2, W, ⟨m0, w0⟩, turn⟩ := h2
  subst e
  -- what stays true of the iterator's objects through the loop
  have stat : ∀ {H' : Hp}, (∀ b ∈ fp, H' b = none) → ∀ b ∈ fp, FpOk X pins H' b := fun hn b hb => ⟨hn b hb, (f2 b hb).2⟩
  refine codeAny_forLoop_any (fun n s' => ∃ i σ' H', Inv X pins σ' H' s' ∧ tn i s'.heap ∧ (∀ b ∈ fp, H' b = none) ∧ W i n σ' H') ?_ m0 ⟨0, σ, H2, I2, st2, fun b hb => (f2 b hb).1, w0⟩
  rintro n s3 ⟨i, σ3, H3, I3, st3, fr3, w3⟩
  rcases turn i n σ3 H3 w3 with ⟨stop, qn⟩ | ⟨go, N, hN, step⟩
  · refine wpAny_passesOwn hp (thn (T.done X rfl rfl rfl hc i pins s3 σ3 H3 X.xe I3 (stat fr3) st3 stop) fun r s4 ⟨hr, I4⟩ => ?_)
    subst hr
    exact wpAny_execs_nil ⟨σ3, H3, I4, qn⟩
  · refine wpAny_passesOwn hp (thn (T.item X rfl rfl rfl hc i pins s3 σ3 H3 X.xe I3 (stat fr3) st3 go) fun r s4 ⟨u, hr, h4⟩ => ?_)
    subst hr
    refine wpAny_passesOwn hp (thn h4 fun _ s5 ⟨x, H5, I5, r5, y5, st5, fr5⟩ => ?_)
    have I5' := I5.pinned (stat fr5) (T.obj _ _ st5)
    refine wpAny_passesOwn hp (thn (hg _ s5 σ3 H5 x u _ I5' r5 (step x H5 y5)) fun _ s6 ⟨σ6, H6, I6, q6⟩ => ?_)
    refine wpAny_passesOwn hp (thn (hb _ s6 σ6 H6 _ I6 q6) fun f s7 q7 => ?_)
    have again : ∀ {σ7 : St} {H7 : Hp}, Inv X (pins ++ pinsAt fp s5.heap) σ7 H7 s7 → N σ7 H7 → ∃ m, m < n ∧ ∃ i σ' H', Inv X pins σ' H' s7 ∧ tn i s7.heap ∧ (∀ b ∈ fp, H' b = none) ∧ W i m σ' H' := fun {σ7 H7} I7 n7 => by
      obtain ⟨m', hm, w7⟩ := hN σ7 H7 n7
      refine ⟨m', hm, i + 1, σ7, H7, I7.unpinned, T.keep _ _ _ st5 fun b hb o e => (I7.pin (b, o) (List.mem_append_right _ (List.mem_append_right _ (mem_pinsAt hb e)))).1, fun b hb => ?_, w7⟩
      obtain ⟨o, e, d⟩ := T.obj _ _ st5 b hb
      exact (I7.pin (b, o) (List.mem_append_right _ (List.mem_append_right _ (mem_pinsAt hb e)))).2.1
    cases f with
    | next => obtain ⟨σ7, H7, I7, n7⟩ := q7; exact again I7 n7
    | cont => obtain ⟨σ7, H7, I7, n7⟩ := q7; exact again I7 n7
    | brk => obtain ⟨σ7, H7, I7, q7⟩ := q7; exact ⟨σ7, H7, I7.unpinned, q7⟩
    | ret v => obtain ⟨x7, σ7, H7, I7, r7, q7⟩ := q7; exact ⟨x7, σ7, H7, I7.unpinned, r7, q7⟩
end

/-! ### the forms one uses -/
/-- over a list that the body leaves as it is -/
theorem for_list {K : PySem.W.Frag} {a : Addr} {xs : List V} {g : TG} {tb : TS} {D : Ends} {σ : St} {H : Hp} (Pv : Nat → St → Hp → Prop) (h0 : Pv 0 σ H) (hl : ∀ i σ H, i ≤ xs.length → Pv i σ H → SqL K H a xs)
    (hs : ∀ i x σ H, xs[i]? = some x → Pv i σ H → g x σ H fun σ2 H2 => tb { D with nx := Pv (i + 1), ct := Pv (i + 1), bk := D.nx } σ2 H2) (hd : ∀ σ H, Pv xs.length σ H → D.nx σ H) :
    ∃ W : Nat → Nat → St → Hp → Prop, (∃ m, W 0 m σ H) ∧ ∀ i m σ H, W i m σ H →
      ((Itl K a).stop i H ∧ D.nx σ H) ∨ ((Itl K a).go i H ∧ ∃ N : St → Hp → Prop, (∀ σ' H', N σ' H' → ∃ m', m' < m ∧ W (i + 1) m' σ' H') ∧ ∀ x H', (Itl K a).yld i H x H' → g x σ H' fun σ2 H2 => tb { D with nx := N, ct := N, bk := D.nx } σ2 H2) := by
  refine ⟨fun i m σ H => m = xs.length - i ∧ i ≤ xs.length ∧ Pv i σ H, ⟨xs.length, by simp, Nat.zero_le _, h0⟩, ?_⟩
  rintro i m σ H ⟨rfl, hi, p⟩
  have q := hl i σ H hi p
  by_cases hlt : i < xs.length
  · refine .inr ⟨⟨xs, xs[i], q, by simp [hlt]⟩, Pv (i + 1), fun σ' H' p' => ⟨xs.length - (i + 1), by omega, rfl, hlt, p'⟩, fun x H' y => ?_⟩
    obtain ⟨e, y⟩ := y
    subst e
    exact hs i x σ _ (y xs q) p
  · have e : i = xs.length := by omega
    subst e
    exact .inl ⟨⟨xs, q, Nat.le_refl _⟩, hd σ H p⟩
end L2

namespace L2
open PySem PySem.Spec PyProof.Rows

abbrev R2 := V → V → Hp → VK → Prop
/-- a two-place operation on values: f is binaryOp op, inplaceOp op or compareOp op -/
def OpR (X : Cx) (f : Value → Value → Sem Value) (r : R2) : Prop :=
  ∀ (pins : List (Addr × Obj)) (s : Shared) (σ : St) (H : Hp) (x y : V) (v u : Value) (Q : VK), Inv X pins σ H s → RelV x v → RelV y u → r x y H Q →
    wpAny (model X.prog X.w) X.A (f v u) (EP X pins σ Q) X.xe s
/-- a one-place operation -/
def UnR (X : Cx) (f : Value → Sem Value) (r : V → Hp → VK → Prop) : Prop :=
  ∀ (pins : List (Addr × Obj)) (s : Shared) (σ : St) (H : Hp) (x : V) (v : Value) (Q : VK), Inv X pins σ H s → RelV x v → r x H Q →
    wpAny (model X.prog X.w) X.A (f v) (EP X pins σ Q) X.xe s
/-- a call of a value that is known (a builtin, a type) with values -/
def CallR (X : Cx) (f : Value) (r : List V → Hp → VK → Prop) : Prop :=
  ∀ (pins : List (Addr × Obj)) (s : Shared) (σ : St) (H : Hp) (xs : List V) (us : List Value) (Q : VK), Inv X pins σ H s → Vals xs us → r xs H Q →
    wpAny (model X.prog X.w) X.A (call f us) (EP X pins σ Q) X.xe s
/-- a value's truth -/
def TruR (X : Cx) (r : V → Hp → (Bool → Hp → Prop) → Prop) : Prop :=
  ∀ (pins : List (Addr × Obj)) (s : Shared) (σ : St) (H : Hp) (x : V) (v : Value) (Q : Bool → Hp → Prop), Inv X pins σ H s → RelV x v → r x H Q →
    wpAny (model X.prog X.w) X.A (truthy v) (TP X pins σ Q) X.xe s

def tOp (r : R2) (ta tb : TE) : TE := fun σ H Q => ta σ H fun x H1 => tb σ H1 fun y H2 => r x y H2 Q
def tUn (r : V → Hp → VK → Prop) (ta : TE) : TE := fun σ H Q => ta σ H fun x H1 => r x H1 Q
/-- ints in, under C, and a value out -/
def rI (C : Int → Int → Prop) (g : Int → Int → V) : R2 := fun x y H Q => ∃ i j, x = .int i ∧ y = .int j ∧ C i j ∧ Q (g i j) H
def rI0 (g : Int → Int → V) : R2 := fun x y H Q => ∃ i j, x = .int i ∧ y = .int j ∧ Q (g i j) H
def rU (g : Int → V) : V → Hp → VK → Prop := fun x H Q => ∃ i, x = .int i ∧ Q (g i) H

section
variable {X : Cx} {a b c : Expr} {ta tb tc : TE} {pos : Pos}

theorem binT (ha : PE X a ta) (hb : PE X b tb) {pins : List (Addr × Obj)} {s : Shared} {σ : St} {H : Hp} {R : V → V → Hp → Prop} (I : Inv X pins σ H s)
    (h : ta σ H fun x H1 => tb σ H1 fun y H2 => R x y H2) {Q : Value → Shared → Prop} {f : Value → Value → Sem Value}
    (hf : ∀ v u s2 x y H2, Inv X pins σ H2 s2 → RelV x v → RelV y u → R x y H2 → wpAny (model X.prog X.w) X.A (f v u) Q X.xe s2) :
    wpAny (model X.prog X.w) X.A (eval a X.env) (fun v s₁ => wpAny (model X.prog X.w) X.A (eval b X.env) (fun u s₂ => wpAny (model X.prog X.w) X.A (f v u) Q X.xe s₂) X.xe s₁) X.xe s := by
  refine thn (ha pins s σ H _ I h) fun v s1 ⟨x, H1, I1, r1, q1⟩ => ?_
  refine thn (hb pins s1 σ H1 _ I1 q1) fun u s2 ⟨y, H2, I2, r2, q2⟩ => ?_
  exact hf v u s2 x y H2 I2 r1 r2 q2

theorem pe_op {op : Operator} {r : R2} (ho : OpR X (binaryOp op) r) (ha : PE X a ta) (hb : PE X b tb) : PE X (.BinOp a op b pos) (tOp r ta tb) := by
  intro pins s σ H Q I h
  exact wpAny_BinOp (binT ha hb I h fun v u s2 x y H2 I2 rx ry q => ho pins s2 σ H2 x y v u Q I2 rx ry q)
theorem pe_un {op : UnaryOp} {r : V → Hp → VK → Prop} (ho : UnR X (unaryOp op) r) (ha : PE X a ta) : PE X (.UnaryOp op a pos) (tUn r ta) := by
  intro pins s σ H Q I h
  exact UnaryOp_ (thn (ha pins s σ H _ I h) fun v s1 ⟨x, H1, I1, r1, q1⟩ => ho pins s1 σ H1 x v Q I1 r1 q1)
/-! ### ints -/
theorem opI {f : Value → Value → Sem Value} {C : Int → Int → Prop} {g : Int → Int → Int}
    (rule : ∀ (i j : Int) (t u : Tok) (s : Shared) (Q : Value → Shared → Prop) (E : Value → Shared → Prop), C i j → Q (.int (g i j) s.toks) { s with toks := s.toks + 1 } → wpAny (model X.prog X.w) X.A (f (.int i t) (.int j u)) Q E s) :
    OpR X f (rI C fun i j => .int (g i j)) := by
  intro pins s σ H x y v u Q I rx ry h
  obtain ⟨i, j, rfl, rfl, hc, q⟩ := h
  obtain ⟨t, rfl⟩ := rx
  obtain ⟨t', rfl⟩ := ry
  exact rule i j t t' s _ _ hc ⟨.int (g i j), H, I.tok _, ⟨_, rfl⟩, q⟩
theorem opI0 {f : Value → Value → Sem Value} {g : Int → Int → Int}
    (rule : ∀ (i j : Int) (t u : Tok) (s : Shared) (Q : Value → Shared → Prop) (E : Value → Shared → Prop), Q (.int (g i j) s.toks) { s with toks := s.toks + 1 } → wpAny (model X.prog X.w) X.A (f (.int i t) (.int j u)) Q E s) :
    OpR X f (rI0 fun i j => .int (g i j)) := by
  intro pins s σ H x y v u Q I rx ry h
  obtain ⟨i, j, rfl, rfl, q⟩ := h
  obtain ⟨t, rfl⟩ := rx
  obtain ⟨t', rfl⟩ := ry
  exact rule i j t t' s _ _ ⟨.int (g i j), H, I.tok _, ⟨_, rfl⟩, q⟩
theorem opB0 {f : Value → Value → Sem Value} {g : Int → Int → Bool}
    (rule : ∀ (i j : Int) (t u : Tok) (s : Shared) (Q : Value → Shared → Prop) (E : Value → Shared → Prop), Q (.bool (g i j)) s → wpAny (model X.prog X.w) X.A (f (.int i t) (.int j u)) Q E s) :
    OpR X f (rI0 fun i j => .bl (g i j)) := by
  intro pins s σ H x y v u Q I rx ry h
  obtain ⟨i, j, rfl, rfl, q⟩ := h
  obtain ⟨t, rfl⟩ := rx
  obtain ⟨t', rfl⟩ := ry
  exact rule i j t t' s _ _ ⟨.bl (g i j), H, I, rfl, q⟩

def CDiv (i j : Int) : Prop := 0 < j ∧ j < 1073741824
def CDivN (i j : Int) : Prop := j ≠ 0 ∧ j.natAbs < 1073741824
def CPow (i j : Int) : Prop := 0 ≤ j ∧ j ≤ 1000000 ∧ i.natAbs < 2 ^ 64
def CMul (i j : Int) : Prop := (-(2 ^ 64) < i ∧ i < 2 ^ 64) ∨ (-(2 ^ 64) < j ∧ j < 2 ^ 64)
theorem CMul.ok {i j : Int} (h : CMul i j) : IntMulOk i j := by
  rcases h with ⟨h1, h2⟩ | ⟨h1, h2⟩
  · exact .of_left (intBits_le_64 h1 h2)
  · exact .of_right (intBits_le_64 h1 h2)
theorem two_pow_nn (k : Nat) : (0 : Int) ≤ 2 ^ k := by
  rw [two_pow_cast]
  exact Int.natCast_nonneg _

theorem op_add : OpR X (binaryOp .Add) (rI0 fun i j => .int (i + j)) := opI0 fun _ _ _ _ _ _ _ q => add_int q
theorem op_sub : OpR X (binaryOp .Sub) (rI0 fun i j => .int (i - j)) := opI0 fun _ _ _ _ _ _ _ q => sub_int q
theorem op_mul : OpR X (binaryOp .Mult) (rI CMul fun i j => .int (i * j)) := opI fun _ _ _ _ _ _ _ hc q => mul_int q hc.ok
/-- % by a positive divisor of any size -/
theorem op_mod : OpR X (binaryOp .Mod) (rI (fun _ j => 0 < j) fun i j => .int (i % j)) := opI fun i j _ _ _ _ _ hc q => by
  have h1 : (0 : Int) < j := hc
  exact mod_int' (by omega) (by rw [Int.fmod_eq_emod_of_nonneg i (by omega)]; exact q)
theorem op_pow : OpR X (binaryOp .Pow) (rI CPow fun i j => .int (i ^ j.toNat)) := opI fun _ _ _ _ _ _ _ hc q => pow_int_small hc.1 hc.2.1 hc.2.2 q
theorem op_shl : OpR X (binaryOp .LShift) (rI CPow fun i j => .int (i * 2 ^ j.toNat)) := opI fun _ _ _ _ _ _ _ hc q => lshift_int_small hc.1 hc.2.1 hc.2.2 q
theorem op_shr : OpR X (binaryOp .RShift) (rI (fun _ j => 0 ≤ j) fun i j => .int (i / 2 ^ j.toNat)) := opI fun i j _ _ _ _ _ hc q =>
  rshift_int hc (by rw [Int.fdiv_eq_ediv_of_nonneg i (two_pow_nn _)]; exact q)
theorem op_and : OpR X (binaryOp .BitAnd) (rI0 fun i j => .int (Builtin.bitAnd i j)) := opI0 fun _ _ _ _ _ _ _ q => and_int q
theorem op_or : OpR X (binaryOp .BitOr) (rI0 fun i j => .int (Builtin.bitOr i j)) := opI0 fun _ _ _ _ _ _ _ q => or_int q
theorem op_xor : OpR X (binaryOp .BitXor) (rI0 fun i j => .int (Builtin.bitXor i j)) := opI0 fun _ _ _ _ _ _ _ q => xor_int q

theorem unI {f : Value → Sem Value} {g : Int → Int}
    (rule : ∀ (i : Int) (t : Tok) (s : Shared) (Q : Value → Shared → Prop) (E : Value → Shared → Prop), Q (.int (g i) s.toks) { s with toks := s.toks + 1 } → wpAny (model X.prog X.w) X.A (f (.int i t)) Q E s) :
    UnR X f (rU fun i => .int (g i)) := by
  intro pins s σ H x v Q I rx h
  obtain ⟨i, rfl, q⟩ := h
  obtain ⟨t, rfl⟩ := rx
  exact rule i t s _ _ ⟨.int (g i), H, I.tok _, ⟨_, rfl⟩, q⟩
theorem un_neg : UnR X (unaryOp .USub) (rU fun i => .int (-i)) := unI fun _ _ _ _ _ q => neg_int q
/-! ### bools among ints: n += (a < b) -/
end

/-! ### comparisons -/
/-- the scalars that == tells apart as data does -/
def scal : V → V → Bool
  | .non, .non => true | .non, .int _ => true | .int _, .non => true | .non, .bl _ => true | .bl _, .non => true | .non, .str _ => true | .str _, .non => true
  | .int _, .int _ => true | .bl _, .bl _ => true | .str _, .str _ => true | .byt _, .byt _ => true
  | .int _, .str _ => true | .str _, .int _ => true | .bl _, .str _ => true | .str _, .bl _ => true
  | _, _ => false
def rEq : R2 := fun x y H Q => scal x y = true ∧ Q (.bl (decide (x = y))) H
def rNe : R2 := fun x y H Q => scal x y = true ∧ Q (.bl (!decide (x = y))) H

theorem dec_int {i j : Int} : decide (V.int i = V.int j) = (i == j) := by
  rw [Bool.eq_iff_iff]
  simp
theorem dec_bl {i j : Bool} : decide (V.bl i = V.bl j) = (i == j) := by
  rw [Bool.eq_iff_iff]
  simp
theorem dec_str {i j : Str} : decide (V.str i = V.str j) = (i == j) := by
  rw [Bool.eq_iff_iff]
  simp
theorem dec_byt {i j : Array UInt8} : decide (V.byt i = V.byt j) = (i.toList == j.toList) := by
  rw [Bool.eq_iff_iff]
  cases i
  cases j
  simp

section
variable {X : Cx} {a b c : Expr} {ta tb tc : TE} {pos : Pos}
theorem fin_bl {pins : List (Addr × Obj)} {σ : St} {H : Hp} {s : Shared} {Q : VK} {k k' : Bool} (I : Inv X pins σ H s) (q : Q (.bl k) H) (e : k = k') : EP X pins σ Q (.bool k') s := by
  subst e
  exact ⟨.bl k, H, I, rfl, q⟩
theorem op_eq : OpR X (compareOp .Eq) rEq := by
  intro pins s σ H x y v u Q I rx ry h
  obtain ⟨hs, q⟩ := h
  cases x with
  | non =>
    cases rx
    cases y with
    | non => cases ry; exact PySem.EqNone.eq_none_none (fin_bl I q (by simp))
    | bl j => cases ry; exact PySem.EqNone.eq_none_bool (fin_bl I q (by simp))
    | int j => obtain ⟨t', rfl⟩ := ry; exact PySem.EqNone.eq_none_int (fin_bl I q (by simp))
    | str j => obtain ⟨t', rfl⟩ := ry; exact PySem.EqNone.eq_none_str (fin_bl I q (by simp))
    | _ => exact absurd (show false = true from hs) Bool.false_ne_true
  | bl i =>
    cases rx
    cases y with
    | non => cases ry; exact PySem.EqNone.eq_bool_none (fin_bl I q (by simp))
    | bl j => cases ry; exact eq_bool (fin_bl I q dec_bl)
    | str j => obtain ⟨t', rfl⟩ := ry; exact PySem.EqMixed.eq_bool_str (fin_bl I q (by simp))
    | _ => exact absurd (show false = true from hs) Bool.false_ne_true
  | int i =>
    obtain ⟨t, rfl⟩ := rx
    cases y with
    | non => cases ry; exact PySem.EqNone.eq_int_none (fin_bl I q (by simp))
    | int j => obtain ⟨t', rfl⟩ := ry; exact eq_int (fin_bl I q dec_int)
    | str j => obtain ⟨t', rfl⟩ := ry; exact PySem.EqMixed.eq_int_str (fin_bl I q (by simp))
    | _ => exact absurd (show false = true from hs) Bool.false_ne_true
  | str i =>
    obtain ⟨t, rfl⟩ := rx
    cases y with
    | non => cases ry; exact PySem.EqNone.eq_str_none (fin_bl I q (by simp))
    | bl j => cases ry; exact PySem.EqMixed.eq_str_bool (fin_bl I q (by simp))
    | int j => obtain ⟨t', rfl⟩ := ry; exact PySem.EqMixed.eq_str_int (fin_bl I q (by simp))
    | str j => obtain ⟨t', rfl⟩ := ry; exact eq_str (fin_bl I q dec_str)
    | _ => exact absurd (show false = true from hs) Bool.false_ne_true
  | byt i =>
    obtain ⟨t, rfl⟩ := rx
    cases y with
    | byt j => obtain ⟨t', rfl⟩ := ry; exact PySem.W.eq_bytes (fin_bl I q dec_byt)
    | _ => exact absurd (show false = true from hs) Bool.false_ne_true
  | _ => cases y <;> exact absurd (show false = true from hs) Bool.false_ne_true
theorem op_ne : OpR X (compareOp .NotEq) rNe := by
  intro pins s σ H x y v u Q I rx ry h
  obtain ⟨hs, q⟩ := h
  cases x with
  | non =>
    cases rx
    cases y with
    | non => cases ry; exact PySem.EqNone.ne_none_none (fin_bl I q (by simp))
    | bl j => cases ry; exact PySem.EqNone.ne_none_bool (fin_bl I q (by simp))
    | int j => obtain ⟨t', rfl⟩ := ry; exact PySem.EqNone.ne_none_int (fin_bl I q (by simp))
    | str j => obtain ⟨t', rfl⟩ := ry; exact PySem.EqNone.ne_none_str (fin_bl I q (by simp))
    | _ => exact absurd (show false = true from hs) Bool.false_ne_true
  | bl i =>
    cases rx
    cases y with
    | non => cases ry; exact PySem.EqNone.ne_bool_none (fin_bl I q (by simp))
    | bl j => cases ry; exact ne_bool (fin_bl I q (congrArg not dec_bl))
    | str j => obtain ⟨t', rfl⟩ := ry; exact PySem.EqMixed.ne_bool_str (fin_bl I q (by simp))
    | _ => exact absurd (show false = true from hs) Bool.false_ne_true
  | int i =>
    obtain ⟨t, rfl⟩ := rx
    cases y with
    | non => cases ry; exact PySem.EqNone.ne_int_none (fin_bl I q (by simp))
    | int j => obtain ⟨t', rfl⟩ := ry; exact ne_int (fin_bl I q (congrArg not dec_int))
    | str j => obtain ⟨t', rfl⟩ := ry; exact PySem.EqMixed.ne_int_str (fin_bl I q (by simp))
    | _ => exact absurd (show false = true from hs) Bool.false_ne_true
  | str i =>
    obtain ⟨t, rfl⟩ := rx
    cases y with
    | non => cases ry; exact PySem.EqNone.ne_str_none (fin_bl I q (by simp))
    | bl j => cases ry; exact PySem.EqMixed.ne_str_bool (fin_bl I q (by simp))
    | int j => obtain ⟨t', rfl⟩ := ry; exact PySem.EqMixed.ne_str_int (fin_bl I q (by simp))
    | str j => obtain ⟨t', rfl⟩ := ry; exact ne_str (fin_bl I q (congrArg not dec_str))
    | _ => exact absurd (show false = true from hs) Bool.false_ne_true
  | byt i =>
    obtain ⟨t, rfl⟩ := rx
    cases y with
    | byt j => obtain ⟨t', rfl⟩ := ry; exact PySem.W.ne_bytes (fin_bl I q (congrArg not dec_byt))
    | _ => exact absurd (show false = true from hs) Bool.false_ne_true
  | _ => cases y <;> exact absurd (show false = true from hs) Bool.false_ne_true

theorem op_lt : OpR X (compareOp .Lt) (rI0 fun i j => .bl (decide (i < j))) := opB0 fun _ _ _ _ _ _ _ q => lt_int q
theorem op_gt : OpR X (compareOp .Gt) (rI0 fun i j => .bl (decide (j < i))) := opB0 fun _ _ _ _ _ _ _ q => gt_int q
theorem op_ge : OpR X (compareOp .GtE) (rI0 fun i j => .bl (decide (j ≤ i))) := opB0 fun _ _ _ _ _ _ _ q => ge_int q
/-- is None, is not None: the right side a value none -/
theorem op_isN : OpR X (compareOp .Is) (fun x y H Q => y = .non ∧ Q (.bl (decide (x = .non))) H) := by
  intro pins s σ H x y v u Q I rx ry h
  obtain ⟨rfl, q⟩ := h
  cases ry
  refine is_none_gen (fin_bl I q ?_)
  cases x <;> first
    | (cases rx; rfl)
    | (obtain ⟨t, rfl⟩ := rx; rfl)
theorem op_notN : OpR X (compareOp .IsNot) (fun x y H Q => y = .non ∧ Q (.bl (!decide (x = .non))) H) := by
  intro pins s σ H x y v u Q I rx ry h
  obtain ⟨rfl, q⟩ := h
  cases ry
  refine isnot_none_gen (fin_bl I q ?_)
  cases x <;> first
    | (cases rx; rfl)
    | (obtain ⟨t, rfl⟩ := rx; rfl)

/-- is, is not of two objects that are tracked lists or instances -/
def isObj : HO → Bool
  | .lst _ => true
  | .ins _ _ _ => true
  | _ => false
theorem nomark (b : Expr) {op : CmpOp} (h : op ≠ .In := by decide) (h2 : op ≠ .NotIn := by decide) : behindInMarks op b = false := by
  have e1 : (op == CmpOp.In) = false := by cases op <;> first | rfl | exact absurd rfl h
  have e2 : (op == CmpOp.NotIn) = false := by cases op <;> first | rfl | exact absurd rfl h2
  cases b <;> simp [behindInMarks, e1, e2]
/-- a comparison as a value; hm: nomark b, or (for in, not in) by with_unfolding_all rfl -/
theorem pe_cmpR {op : CmpOp} {r : R2} (ho : OpR X (compareOp op) r) (ha : PE X a ta) (hb : PE X b tb) (hm : behindInMarks op b = false) : PE X (.Compare a [op] [b] pos) (tOp r ta tb) := by
  intro pins s σ H Q I h
  exact wpAny_Compare1 (binT ha hb I h fun v u s2 x y H2 I2 rx ry q => ho pins s2 σ H2 x y v u Q I2 rx ry q) hm
/-- a reading of a value as a test -/
def tTest (t : TE) : TT := fun σ H Q => t σ H fun x H' => ∃ k, x = .bl k ∧ Q k H'
theorem pt_cmpR {op : CmpOp} {r : R2} (ho : OpR X (compareOp op) r) (ha : PE X a ta) (hb : PE X b tb) (hm : behindInMarks op b = false) : PT X (.Compare a [op] [b] pos) (tTest (tOp r ta tb)) := by
  intro pins s σ H Q I h
  refine wpAny_isTrue_Compare1 (thn (ha pins s σ H _ I h) fun v s1 ⟨x, H1, I1, r1, q1⟩ => thn (hb pins s1 σ H1 _ I1 q1) fun u s2 ⟨y, H2, I2, r2, q2⟩ =>
    thn (ho pins s2 σ H2 x y v u _ I2 r1 r2 q2) fun c s3 ⟨z, H3, I3, r3, k, e, q3⟩ => ?_) hm
  subst e
  cases r3
  exact wpAny_truthy_bool ⟨H3, I3, q3⟩
/-- a op1 b op2 c -/
def tChain (r r' : R2) (ta tb tc : TE) : TE := fun σ H Q => ta σ H fun x H1 => tb σ H1 fun y H2 => r x y H2 fun z H3 => ∃ k, z = .bl k ∧
  (if k = true then tc σ H3 fun w' H4 => r' y w' H4 Q else Q (.bl false) H3)
/-! ### truth -/
/-- a value's truth by the abstract heap -/
def TruV (K : PySem.W.Frag) (x : V) (H : Hp) (k : Bool) : Prop :=
  match x with
  | .non => k = false
  | .bl b => k = b
  | .int i => k = (i != 0)
  | .str y => y.length ≤ sizeLine ∧ k = ((y.length : Int) != 0)
  | .byt y => y.size ≤ sizeLine ∧ k = ((y.size : Int) != 0)
  | .ref p => (∃ xs, SqL K H p xs ∧ k = !xs.isEmpty) ∨ (∃ xs, SqT K H p xs ∧ k = !xs.isEmpty) ∨ ∃ kvs, H p = some (.dK kvs) ∧ k = !kvs.isEmpty
  | _ => False
theorem line63 : (sizeLine : Nat) < 2 ^ 63 := by rw [sizeLine_eq]; decide
/-! ### strs and bytes -/
def PlainIxT (b : Expr) : Prop := ∀ o i, subscripted b false o i = operate [o, i] (getItem o i)
/-! ### scalar builtins, by CallR -/
theorem vals1 {x : V} {us : List Value} (r : Vals [x] us) : ∃ u, us = [u] ∧ RelV x u := by
  cases r with
  | cons r1 r2 => cases r2; exact ⟨_, rfl, r1⟩
theorem vals2 {x y : V} {us : List Value} (r : Vals [x, y] us) : ∃ u w', us = [u, w'] ∧ RelV x u ∧ RelV y w' := by
  cases r with
  | cons r1 r2 =>
    cases r2 with
    | cons r3 r4 => cases r4; exact ⟨_, _, rfl, r1, r3⟩
theorem call_max2 (hc : X.calm = true) : CallR X (.builtin "max") (fun xs H Q => ∃ i j, xs = [.int i, .int j] ∧ Q (.int (if j > i then j else i)) H) := by
  intro pins s σ H xs us Q I r h
  obtain ⟨i, j, rfl, q⟩ := h
  obtain ⟨u, w', rfl, ⟨t, rfl⟩, ⟨t', rfl⟩⟩ := vals2 r
  refine max_two_ints (I.ok.hd hc) fun h' tk k => ⟨_, H, I.kept k, ?_, q⟩
  by_cases hj : j > i
  · rw [if_pos hj, if_pos hj]; exact ⟨_, rfl⟩
  · rw [if_neg hj, if_neg hj]; exact ⟨_, rfl⟩
/-- len of a str, a bytes, a list, a tuple -/
def LenV (K : PySem.W.Frag) (x : V) (H : Hp) (n : Nat) : Prop :=
  match x with
  | .str y => y.length ≤ sizeLine ∧ n = y.length
  | .byt y => y.size ≤ sizeLine ∧ n = y.size
  | .ref p => (∃ xs, SqL K H p xs ∧ n = xs.length) ∨ ∃ xs, SqT K H p xs ∧ n = xs.length
  | _ => False
end
end L2

namespace L2
open PySem PySem.Spec PyProof.Rows

/-! ### an instance, its attributes a map -/
structure ObjM (h : Heap) (x dx C : Addr) (mA : Str → Option Value) : Prop where
  obj : h.get? x = some (PySem.W.instObj C dx)
  ns : h.Ns1 dx mA
  ne : dx ≠ x

theorem lookIn_ns {h : Heap} {dx : Addr} {mA : Str → Option Value} (n : h.Ns1 dx mA) : ∃ od, h.get? dx = some od ∧ ∀ name, PySem.W.lookIn name od = some (mA name) := by
  obtain ⟨o, es, ep, ho, hd, hk, _, hm⟩ := n
  refine ⟨o, ho, fun name => ?_⟩
  have e := hm name
  unfold nsFind findBy at e
  rw [← Array.find?_toList] at e
  unfold PySem.W.lookIn
  rw [hd]
  dsimp only
  split
  · rename_i y q
    rw [q] at e
    exact congrArg some e
  · rename_i q
    rw [q] at e
    have a : es.toList.any (·.refKey) = false := by
      rw [List.any_eq_false]
      intro y hy
      obtain ⟨z, t, hkey⟩ := hk y (Array.mem_toList_iff.mp hy)
      simp [DictEntry.refKey, hkey]
    have a' : ¬ es.toList.any (·.refKey) = true := by rw [a]; exact Bool.false_ne_true
    rw [if_neg a']
    exact congrArg some e

theorem ObjM.look {h : Heap} {x dx C : Addr} {mA : Str → Option Value} (I : ObjM h x dx C mA) : ∃ od, PySem.W.InstAt h x (PySem.W.instObj C dx) C (some od) ∧ ∀ name, PySem.W.lookIn name od = some (mA name) :=
  let ⟨od, ho, hl⟩ := lookIn_ns I.ns
  ⟨od, ⟨I.obj, rfl, rfl, ho⟩, hl⟩

section
variable {prog : Program} {w : World} {A : Around} {E : Value → Shared → Prop} {s : Shared} {K : PySem.W.Frag} {x dx C f : Addr} {mA : Str → Option Value} {name : Str} {v : Value}

theorem get_map {expr : Bool} {Q : Value → Shared → Prop} (X : K.In s.heap) (I : ObjM s.heap x dx C mA) (hg : PySem.W.plainGet K C name = true) (hh : PySem.W.hasDictIn K C = true)
    (ha : PySem.W.findIn K (.ref C) name = some none) (hv : mA name = some v) (hv' : PySem.W.handedIn v = true) (h : Q v { s with toks := s.toks + 1 }) :
    wpAny (model prog w) A (getAttr (.ref x) name expr) Q E s := by
  obtain ⟨od, J, hl⟩ := I.look
  exact PySem.W.get_value X J (PySem.W.plainGet_of hg).1 (PySem.W.findObj_own hh ha rfl (by rw [hl, hv])) hv' h

theorem get_meth {pl : Sem Bool} {Q : Value × List Value → Shared → Prop} (X : K.In s.heap) (I : ObjM s.heap x dx C mA) (hg : PySem.W.plainGet K C name = true)
    (hf : PySem.W.findIn K (.ref C) name = some (some (.ref f))) (ht : PySem.W.isFn K (.ref f) = true) (hv : mA name = none) (h : Q (.ref f, [.ref x]) s) :
    wpAny (model prog w) A (getMethod (.ref x) name pl) Q E s := by
  obtain ⟨od, J, hl⟩ := I.look
  exact PySem.W.method_fn X J (PySem.W.plainGet_of hg).1 (PySem.W.plainGet_of hg).2 hf (beq_iff_eq.mp ht) (by show (PySem.W.lookIn name od).map (·.isSome) = some false; rw [hl, hv]; rfl) h

theorem set_map {ns : List Str} {Q : Unit → Shared → Prop} (X : K.In s.heap) (I : ObjM s.heap x dx C mA)
    (hs : PySem.W.findIn K (.ref C) "__setattr__" = some (some (.builtin "object.__setattr__"))) (hp : PySem.W.plainOver K C = true) (ht : PySem.W.takerIn K C name = some none) (hh : PySem.W.hasDictIn K C = true)
    (hw : PySem.Within mA ns) (hsz : ns.length ≤ sizeLine)
    (h : ∀ h', ObjM h' x dx C (fun y => if y = name then some v else mA y) → Heap.SameBut dx s.heap h' → Q () { s with heap := h', toks := s.toks + 2 }) :
    wpAny (model prog w) A (setAttr (.ref x) name v) Q E s := by
  obtain ⟨od, J, hl⟩ := I.look
  refine PySem.W.set_plain X J hs (PySem.W.osa_open (s := { s with toks := s.toks + 1 }) (r := none) X J hp ht fun b => ?_)
  obtain ⟨cd, hc, hd'⟩ := PySem.W.any_some hh
  have hx : s.heap.get? x = some ⟨.ref C, some dx, .plain, #[]⟩ := I.obj
  refine wpAny_bind (wpAny_pure (wpAny_bind (wpAny_bind (wpAny_loadPart hx (wpAny_bind (PySem.W.Looks.here (s := { s with toks := s.toks + 1 }) (PySem.W.looks_clsIn X hc) ?_))))))
  rw [hd']
  refine wpAny_pure (a := some dx) (wpAny_bind (wpAny_pure (wpAny_bind ?_)))
  refine wpAny_nsSet1 (s := { s with toks := s.toks + 1 }) I.ns fun h' hn2 hs2 => ?_
  obtain ⟨oD, esD, epD, hoD, hdD, hcD⟩ := hn2.count (PySem.Within.cons name v hw)
  refine wpAny_bind (wpAny_lookBehind hoD (by rw [hdD]; exact pastItsLine_dict (Nat.le_trans hcD (by rw [List.length_cons]; omega))) ?_)
  exact wpAny_pure (h _ ⟨(hs2.2 _ (Ne.symm I.ne)).trans I.obj, hn2, I.ne⟩ hs2)

/-- C(..): the dict at the heap's end, the instance behind it; then its __init__ -/
theorem make_map {R : Result → Shared → Prop} {vs : List Value} {kw : List (Str × Value)} (X : K.In s.heap) (hm : PySem.W.makesIn K C = true)
    (hi : PySem.W.findIn K (.ref C) "__init__" = some (some (.ref f))) (hf : PySem.W.typeIn K (.ref f) = some (.type "function"))
    (h : codeAny (model prog w) (A.under (.builtin "type.__call__" ⟨.ref C :: vs, kw⟩)) (.call (.ref f) ⟨.ref (s.heap.objs.size + 1) :: vs, kw⟩) (PySem.W.InitBack (s.heap.objs.size + 1) R)
      { s with heap := (s.heap.push PySem.W.emptyDict).push (PySem.W.instObj C s.heap.objs.size) }) :
    codeAny (model prog w) A (.call (.ref C) ⟨vs, kw⟩) R s := by
  obtain ⟨hh, g, d, t, os⟩ := s
  exact PySem.W.make_core (PySem.W.makes_of X hm) (PySem.W.looks_findIn X hi) (fun self => PySem.W.bind_fn X self hf) (.inl rfl) h
end

/-! ### the attributes as a list of pairs -/
def putF (f : Str) (v : V) : List (Str × V) → List (Str × V)
  | [] => [(f, v)]
  | (g, x) :: r => if g = f then (g, v) :: r else (g, x) :: putF f v r
theorem lookup_putF (f g : Str) (v : V) : ∀ fs : List (Str × V), (putF f v fs).lookup g = if g = f then some v else fs.lookup g
  | [] => by
    show List.lookup g [(f, v)] = _
    by_cases h : g = f
    · have hb : (g == f) = true := beq_iff_eq.mpr h
      simp only [List.lookup, hb, if_pos h]
    · have hb : (g == f) = false := beq_eq_false_iff_ne.mpr h
      simp only [List.lookup, hb, if_neg h]
  | (k, x) :: r => by
    have ih := lookup_putF f g v r
    rw [show putF f v ((k, x) :: r) = (if k = f then (k, v) :: r else (k, x) :: putF f v r) from rfl]
    by_cases hk : k = f
    · rw [if_pos hk]
      by_cases h : g = k
      · have hb : (g == k) = true := beq_iff_eq.mpr h
        simp only [List.lookup, hb, if_pos (h.trans hk)]
      · have hb : (g == k) = false := beq_eq_false_iff_ne.mpr h
        simp only [List.lookup, hb, if_neg (fun e : g = f => h (e.trans hk.symm))]
    · rw [if_neg hk]
      by_cases h : g = k
      · have hb : (g == k) = true := beq_iff_eq.mpr h
        simp only [List.lookup, hb, if_neg (fun e : g = f => hk (h.symm.trans e))]
      · have hb : (g == k) = false := beq_eq_false_iff_ne.mpr h
        simp only [List.lookup, hb]
        exact ih
theorem keys_putF (f : Str) (v : V) : ∀ fs : List (Str × V), f ∈ (putF f v fs).map (·.1) ∧ ∀ g, g ∈ fs.map (·.1) → g ∈ (putF f v fs).map (·.1)
  | [] => ⟨by simp [putF], fun g h => by simp at h⟩
  | (k, x) :: r => by
    obtain ⟨i1, i2⟩ := keys_putF f v r
    rw [show putF f v ((k, x) :: r) = (if k = f then (k, v) :: r else (k, x) :: putF f v r) from rfl]
    by_cases hk : k = f
    · rw [if_pos hk]
      subst hk
      exact ⟨by simp, fun g h => by simpa using h⟩
    · rw [if_neg hk]
      refine ⟨?_, fun g h => ?_⟩
      · rw [List.map_cons]
        exact List.mem_cons_of_mem _ i1
      · rw [List.map_cons] at h ⊢
        rcases List.mem_cons.mp h with e | e
        · exact List.mem_cons.mpr (.inl e)
        · exact List.mem_cons_of_mem _ (i2 g e)
theorem length_putF (f : Str) (v : V) : ∀ fs : List (Str × V), (putF f v fs).length ≤ fs.length + 1
  | [] => by simp [putF]
  | (k, x) :: r => by
    have ih := length_putF f v r
    rw [show putF f v ((k, x) :: r) = (if k = f then (k, v) :: r else (k, x) :: putF f v r) from rfl]
    by_cases hk : k = f
    · rw [if_pos hk, List.length_cons, List.length_cons]; omega
    · rw [if_neg hk, List.length_cons, List.length_cons]; omega

theorem RelO.some_of {v : V} {o : Option Value} (r : RelO (some v) o) : ∃ u, o = some u ∧ RelV v u := by
  cases o with
  | none => exact (show False from r).elim
  | some u => exact ⟨u, rfl, r⟩
theorem RelO.none_of {o : Option Value} (r : RelO none o) : o = none := by
  cases o with
  | none => rfl
  | some u => exact (show False from r).elim
theorem handed_of {v : V} {u : Value} (r : RelV v u) : PySem.W.handedIn u = true := by
  cases v with
  | non => cases (show u = Value.none from r); rfl
  | bl b => cases (show u = Value.bool b from r); rfl
  | int i => obtain ⟨t, e⟩ := (show ∃ t, u = Value.int i t from r); cases e; rfl
  | str x => obtain ⟨t, e⟩ := (show ∃ t, u = Value.str x t from r); cases e; rfl
  | byt b => obtain ⟨t, e⟩ := (show ∃ t, u = Value.bytes b t from r); cases e; rfl
  | flt b => obtain ⟨t, e⟩ := (show ∃ t, u = Value.float b t from r); cases e; rfl
  | ref a => cases (show u = Value.ref a from r); rfl
  | ty n => cases (show u = Value.type n from r); rfl

section
variable {P : Program} {w : World} {H H' : Hp} {h h' : Heap} {a C dx : Addr} {fs fs' : List (Str × V)}
theorem ins_get (hok : HOk P w H h) (e : H a = some (.ins C dx fs)) : ∃ mA, ObjM h a dx C mA ∧ (∀ f, RelO (fs.lookup f) (mA f)) ∧ PySem.Within mA (fs.map (·.1)) ∧ fs.length ≤ 1000 ∧ H dx = some (.own a) := by
  obtain ⟨d, z, ne, ob, mA, n, r, q⟩ := (show ObjOk P w H h a (.ins C dx fs) from hok a _ e)
  exact ⟨mA, ⟨ob, n, ne⟩, r, q, z, d⟩
end

/-! ### what of the text a class must have -/
structure Cls (K : PySem.W.Frag) (C : Addr) : Prop where
  pg : PySem.W.plainGet K C Str.empty = true
  hd : PySem.W.hasDictIn K C = true
  po : PySem.W.plainOver K C = true
  sa : PySem.W.findIn K (.ref C) "__setattr__" = some (some (.builtin "object.__setattr__"))
theorem Cls.get {K : PySem.W.Frag} {C : Addr} (c : Cls K C) (f : Str) : PySem.W.plainGet K C f = true := c.pg
/-- no class of it has the name -/
def NoAttr (K : PySem.W.Frag) (C : Addr) (f : Str) : Prop := PySem.W.findIn K (.ref C) f = some none
theorem NoAttr.taker {K : PySem.W.Frag} {C : Addr} {f : Str} (n : NoAttr K C f) : PySem.W.takerIn K C f = some none := by
  unfold PySem.W.takerIn
  rw [show PySem.W.findIn K (.ref C) f = some none from n]
  rfl
/-- a constant of the class -/
structure Con (K : PySem.W.Frag) (C : Addr) (f : Str) (v : V) (u : Value) : Prop where
  at_ : PySem.W.findIn K (.ref C) f = some (some u)
  rel : RelV v u
  get : PySem.W.specialIn K u "__get__" = some none
  cp : PySem.W.copiedNames.contains f = false
/-- a method: a plain def of the class or of one above it -/
structure Meth (K : PySem.W.Frag) (C : Addr) (m : Str) (f : Addr) : Prop where
  at_ : PySem.W.findIn K (.ref C) m = some (some (.ref f))
  fn : PySem.W.isFn K (.ref f) = true
  kp : PySem.W.keepIn K (.ref f) = true

section
variable {X : Cx} {pins : List (Addr × Obj)} {σ : St} {H : Hp} {s : Shared} {a C dx : Addr} {fs : List (Str × V)} {f : Str} {v : V} {A : Around} {E : Value → Shared → Prop}

theorem getattr_ok {b : Bool} {Q : Value → Shared → Prop} (I : Inv X pins σ H s) (e : H a = some (.ins C dx fs)) (c : Cls X.K C) (n : NoAttr X.K C f) (l : fs.lookup f = some v)
    (h : ∀ u s', Inv X pins σ H s' → RelV v u → Q u s') : wpAny (model X.prog X.w) A (getAttr (.ref a) f b) Q E s := by
  obtain ⟨mA, O, r, _, _, _⟩ := ins_get I.hok e
  obtain ⟨u, hu, ru⟩ := RelO.some_of (v := v) (o := mA f) (by rw [← l]; exact r f)
  exact get_map I.kIn O (c.get f) c.hd n hu (handed_of ru) (h u _ (I.tok _) ru)

theorem getmeth_ok {m : Str} {g : Addr} {pl : Sem Bool} {Q : Value × List Value → Shared → Prop} (I : Inv X pins σ H s) (e : H a = some (.ins C dx fs)) (c : Cls X.K C) (k : Meth X.K C m g) (l : fs.lookup m = none)
    (h : Q (.ref g, [.ref a]) s) : wpAny (model X.prog X.w) A (getMethod (.ref a) m pl) Q E s := by
  obtain ⟨mA, O, r, _, _, _⟩ := ins_get I.hok e
  have hn : mA m = none := RelO.none_of (by rw [← l]; exact r m)
  exact get_meth I.kIn O (c.get m) k.at_ k.fn hn h

theorem setattr_ok {y : V} {u : Value} {Q : Unit → Shared → Prop} (I : Inv X pins σ H s) (e : H a = some (.ins C dx fs)) (c : Cls X.K C) (n : NoAttr X.K C f) (hl : fs.length < 1000) (ry : RelV y u)
    (h : ∀ s', Inv X pins σ (upd H a (.ins C dx (putF f y fs))) s' → Q () s') : wpAny (model X.prog X.w) A (setAttr (.ref a) f u) Q E s := by
  obtain ⟨mA, O, r, wi, _, ho⟩ := ins_get I.hok e
  have hz : (fs.map (·.1)).length ≤ sizeLine := by rw [List.length_map, sizeLine_eq]; omega
  refine set_map I.kIn O c.sa c.po n.taker c.hd wi hz fun h' O' sb => h _ ?_
  have hd : ∃ o, h'.get? dx = some o := let ⟨o, _, _, e', _⟩ := O'.ns; ⟨o, e'⟩
  refine I.write (x := a) (e := dx) (by rw [e]; exact True.intro) (.inr ho) (fun b q hb z => (sb.2 b hb).trans z) hd ?_
  refine ⟨by rw [upd_ne O.ne]; exact ho, ?_, O.ne, O'.obj, _, O'.ns, fun g => ?_, fun g hg => ?_⟩
  · have := length_putF f y fs; omega
  · show RelO ((putF f y fs).lookup g) (if g = f then some u else mA g)
    rw [lookup_putF]
    by_cases q : g = f
    · rw [if_pos q, if_pos q]; exact ry
    · rw [if_neg q, if_neg q]; exact r g
  · by_cases q : g = f
    · rw [q]; exact (keys_putF f y fs).1
    · refine (keys_putF f y fs).2 g (wi g fun z => hg ?_)
      show (if g = f then some u else mA g) = none
      rw [if_neg q]; exact z

/-- a new instance, tracked, without attributes -/
theorem Inv.made (I : Inv X pins σ H s) : Inv X pins σ (upd (upd H s.heap.objs.size (.own (s.heap.objs.size + 1))) (s.heap.objs.size + 1) (.ins C s.heap.objs.size []))
    { s with heap := (s.heap.push PySem.W.emptyDict).push (PySem.W.instObj C s.heap.objs.size) } := by
  have e1 : (s.heap.push PySem.W.emptyDict).get? s.heap.objs.size = some PySem.W.emptyDict := Heap.get?_push_size s.heap rfl
  have e2 : ((s.heap.push PySem.W.emptyDict).push (PySem.W.instObj C s.heap.objs.size)).get? (s.heap.objs.size + 1) = some (PySem.W.instObj C s.heap.objs.size) := by
    have := Heap.get?_push_size (s.heap.push PySem.W.emptyDict) (o := PySem.W.instObj C s.heap.objs.size) rfl
    rwa [Heap.size_push] at this
  have e3 : (s.heap.push PySem.W.emptyDict).Ns s.heap.objs.size (fun _ => none) := ⟨PySem.W.emptyDict, #[], _, e1, rfl, (fun e he => absurd he (by simp)), fun _ => rfl⟩
  have I1 := I.laid (a := s.heap.objs.size) (o := .own (s.heap.objs.size + 1)) (h' := s.heap.push PySem.W.emptyDict) (t' := s.toks) (fun b u q => Heap.get?_push_of_some _ q) (Nat.le_refl _) ⟨_, e1⟩
  refine I1.laid (a := s.heap.objs.size + 1) (o := .ins C s.heap.objs.size []) (t' := s.toks) (fun b u q => Heap.get?_push_of_some _ q) (Nat.le_of_eq (Heap.size_push _ _)) ?_
  have ne : s.heap.objs.size ≠ s.heap.objs.size + 1 := Nat.ne_of_lt (Nat.lt_succ_self _)
  refine ⟨by rw [upd_ne ne, upd_same], Nat.zero_le _, ne, e2, fun _ => none, (Heap.Ns1.of_empty e3).at fun o q => Heap.get?_push_of_some _ q, fun _ => True.intro, fun y hy => absurd rfl hy⟩

/-- e.f where nothing but the object is asked: through attributeBase (super) and the last hold -/
theorem attr_of {prog : Program} {w : World} {env : Env} {e : Expr} {f : Str} {pos : Pos} {s : Shared} {Q : Value → Shared → Prop} (hb : attributeBase e f env (eval e env) = eval e env)
    (h : wpAny (model prog w) A (eval e env) (fun o s₁ => wpAny (model prog w) A (getAttr o f true) Q E s₁) E s) : wpAny (model prog w) A (eval (.Attribute e f pos) env) Q E s :=
  Attribute_any_ h (by rw [arm_eval_Attribute, hb])
end

/-! ### readings and rules -/
/-- e.f, an attribute of the instance -/
def tFld (K : PySem.W.Frag) (ta : TE) (f : Str) : TE := fun σ H Q => ta σ H fun x H1 => ∃ a C dx fs v, x = .ref a ∧ H1 a = some (.ins C dx fs) ∧ Cls K C ∧ NoAttr K C f ∧ fs.lookup f = some v ∧ Q v H1
/-- e.f, a constant of the class -/
def tCon (K : PySem.W.Frag) (ta : TE) (f : Str) : TE := fun σ H Q => ta σ H fun x H1 => ∃ a C dx fs v u, x = .ref a ∧ H1 a = some (.ins C dx fs) ∧ Cls K C ∧ Con K C f v u ∧ fs.lookup f = none ∧ Q v H1
/-- e.f = value -/
def sFld (K : PySem.W.Frag) (ta tv : TE) (f : Str) : TS := fun D σ H => tv σ H fun y H1 => ta σ H1 fun x H2 => ∃ a C dx fs, x = .ref a ∧ H2 a = some (.ins C dx fs) ∧ Cls K C ∧ NoAttr K C f ∧ fs.length < 1000 ∧
  D.nx σ (upd H2 a (.ins C dx (putF f y fs)))
/-- an augmented operator on two values -/
def InOp (X : Cx) (op : Operator) (rd : V → V → Hp → VK → Prop) : Prop :=
  ∀ (pins : List (Addr × Obj)) (s : Shared) (σ : St) (H : Hp) (x y : V) (u v : Value) (Q : VK), Inv X pins σ H s → RelV x u → RelV y v → rd x y H Q → wpAny (model X.prog X.w) X.A (inplaceOp op u v) (EP X pins σ Q) X.xe s
/-- e.f op= value -/
def sFldAug (K : PySem.W.Frag) (ta tv : TE) (rd : V → V → Hp → VK → Prop) (f : Str) : TS := fun D σ H => ta σ H fun x H1 => ∃ a C dx fs v, x = .ref a ∧ H1 a = some (.ins C dx fs) ∧ Cls K C ∧ NoAttr K C f ∧ fs.lookup f = some v ∧
  tv σ H1 fun y H2 => rd v y H2 fun z H3 => ∃ dx' fs', H3 a = some (.ins C dx' fs') ∧ fs'.length < 1000 ∧ D.nx σ (upd H3 a (.ins C dx' (putF f z fs')))

section
variable {X : Cx} {o e value : Expr} {f : Str} {pos pos' tpos : Pos} {ta tv : TE}
theorem pe_fld (he : PE X e ta) (hb : attributeBase e f X.env (eval e X.env) = eval e X.env) : PE X (.Attribute e f pos) (tFld X.K ta f) := by
  intro pins s σ H Q I h
  refine attr_of hb (thn (he pins s σ H _ I h) fun u s1 ⟨x, H1, I1, rx, a, C, dx, fs, v, ex, ea, c, n, l, q⟩ => ?_)
  subst ex
  obtain rfl : u = Value.ref a := rx
  exact getattr_ok I1 ea c n l fun u' s2 I2 ru => ⟨v, H1, I2, ru, q⟩
theorem ps_fld (ha : PE X o ta) (hv : PE X value tv) (hs : swapsWith value (some (.Attribute o f pos')) pos.line X.env = pure false) : PS X (.Assign [.Attribute o f pos'] value pos) (sFld X.K ta tv f) := by
  intro pins s σ H D I h
  refine plainObj_wpAny_Assign_Attribute (thn (hv pins s σ H _ I h) fun u s1 ⟨y, H1, I1, ry, q⟩ => thn (ha pins s1 σ H1 _ I1 q) fun ov s2 ⟨x, H2, I2, rx, a, C, dx, fs, ex, ea, c, n, l, q2⟩ => ?_) hs
  subst ex
  obtain rfl : ov = Value.ref a := rx
  exact setattr_ok I2 ea c n l ry fun s3 I3 => ⟨σ, _, I3, q2⟩
def rAdd : V → V → Hp → VK → Prop := fun x y H Q => ∃ i j, x = .int i ∧ y = .int j ∧ Q (.int (i + j)) H
def rSub : V → V → Hp → VK → Prop := fun x y H Q => ∃ i j, x = .int i ∧ y = .int j ∧ Q (.int (i - j)) H
end

/-! ### isinstance -/
section
variable {X : Cx} {pins : List (Addr × Obj)} {σ : St} {H : Hp} {s : Shared} {A : Around} {E : Value → Shared → Prop} {Q : Value → Shared → Prop} {c : Value} {b : Bool}
/-- the type of a value, as the fragment's deciders take it; for an instance its class -/
inductive TyOf (K : PySem.W.Frag) (H : Hp) : V → Value → Prop where
  | non : TyOf K H .non (.type "NoneType")
  | bl (x : Bool) : TyOf K H (.bl x) (.type "bool")
  | int (i : Int) : TyOf K H (.int i) (.type "int")
  | str (x : Str) : TyOf K H (.str x) (.type "str")
  | flt (x : UInt64) : TyOf K H (.flt x) (.type "float")
  | lst {a : Addr} {xs : List V} (e : H a = some (.lst xs)) : TyOf K H (.ref a) (.type "list")
  | frz {a : Addr} {o : Obj} {xs : List V} (e : H a = some (.frz o (.lst xs))) : TyOf K H (.ref a) (.type "list")
  | tup {a : Addr} {xs : List V} (e : H a = some (.tup xs)) : TyOf K H (.ref a) (.type "tuple")
  | dK {a : Addr} {kvs : List (Key × V)} (e : H a = some (.dK kvs)) : TyOf K H (.ref a) (.type "dict")
  | dT {a : Addr} {kvs : List (List Key × V)} (e : H a = some (.dT kvs)) : TyOf K H (.ref a) (.type "dict")
  | ins {a C dx : Addr} {fs : List (Str × V)} (e : H a = some (.ins C dx fs)) (cl : Cls K C) (ha : PySem.W.findIn K (.ref C) "__class__" = some (some (.builtin "object.__class__")))
      (hn : PySem.W.specialIn K (.builtin "object.__class__") "__get__" = some (some (.builtin "getset_descriptor.__get__"))) (htk : PySem.W.takesIn K (.builtin "object.__class__") = some true)
      (hm : PySem.W.mroIn K C (.type "object") = some true) : TyOf K H (.ref a) (.ref C)
/-- isinstance(x, c) for one class c, a built-in or an own one: kitOne's answer -/
theorem isinst_ok {x : V} {u t : Value} (I : Inv X pins σ H s) (rx : RelV x u) (ty : TyOf X.K H x t) (e : PySem.W.kitOne X.K t c = some b) (h : ∀ tk, Q (.bool b) { s with toks := tk }) :
    wpAny (model X.prog X.w) A (call (.builtin "isinstance") [u, c]) Q E s := by
  cases ty with
  | non => cases (show u = Value.none from rx); exact PySem.W.kia_one PySem.W.kitx_none I.kIn True.intro e (fun z => nomatch z) h
  | bl y => cases (show u = Value.bool y from rx); exact PySem.W.kia_one PySem.W.kitx_bool I.kIn True.intro e (fun z => nomatch z) h
  | int i => obtain ⟨t, q⟩ := (show ∃ t, u = Value.int i t from rx); cases q; exact PySem.W.kia_one PySem.W.kitx_int I.kIn True.intro e (fun z => nomatch z) h
  | str y => obtain ⟨t, q⟩ := (show ∃ t, u = Value.str y t from rx); cases q; exact PySem.W.kia_one PySem.W.kitx_str I.kIn True.intro e (fun z => nomatch z) h
  | flt y => obtain ⟨t, q⟩ := (show ∃ t, u = Value.float y t from rx); cases q; exact PySem.W.kia_one PySem.W.kitx_float I.kIn True.intro e (fun z => nomatch z) h
  | @lst a xs ea =>
    cases (show u = Value.ref a from rx)
    obtain ⟨_, _, n, _, h1⟩ := (show ObjOk X.prog X.w H s.heap a (.lst xs) from I.hok a _ ea)
    exact PySem.W.kia_one PySem.W.kitx_list I.kIn ⟨_, h1, rfl⟩ e (fun z => nomatch z) h
  | @frz a ob xs ea =>
    cases (show u = Value.ref a from rx)
    obtain ⟨_, _, _, n, _, h1⟩ := (show ObjOk X.prog X.w H s.heap a (.frz ob (.lst xs)) from I.hok a _ ea)
    exact PySem.W.kia_one PySem.W.kitx_list I.kIn ⟨_, h1, rfl⟩ e (fun z => nomatch z) h
  | @tup a xs ea =>
    cases (show u = Value.ref a from rx)
    obtain ⟨_, _, _, p⟩ := (show ObjOk X.prog X.w H s.heap a (.tup xs) from I.hok a _ ea)
    obtain ⟨o, h1, h2, _⟩ := p
    exact PySem.W.kia_one PySem.W.kitx_tuple I.kIn ⟨o, h1, h2⟩ e (fun z => nomatch z) h
  | @dK a kvs ea =>
    cases (show u = Value.ref a from rx)
    obtain ⟨_, _, vs, _, p⟩ := (show ObjOk X.prog X.w H s.heap a (.dK kvs) from I.hok a _ ea)
    obtain ⟨o, es, ep, h1, h2, _⟩ := p
    exact PySem.W.kia_one PySem.W.kitx_dict I.kIn ⟨o, h1, h2.1⟩ e (fun z => nomatch z) h
  | @dT a kvs ea =>
    cases (show u = Value.ref a from rx)
    obtain ⟨_, _, xs, _, o, es, ep, h1, h2, _⟩ := (show ObjOk X.prog X.w H s.heap a (.dT kvs) from I.hok a _ ea)
    exact PySem.W.kia_one PySem.W.kitx_dict I.kIn ⟨o, h1, h2.1⟩ e (fun z => nomatch z) h
  | @ins a C dx fs ea cl ha hn htk hm =>
    cases (show u = Value.ref a from rx)
    obtain ⟨mA, O, _⟩ := ins_get I.hok ea
    obtain ⟨od, J, _⟩ := O.look
    exact PySem.W.kia_one (PySem.W.kitx_own (cl.get _) cl.hd ha hn htk hm) I.kIn J e (fun z => nomatch z) h
end
end L2

namespace L2
open PySem PySem.Spec PyProof.Rows

/-! ### room -/
structure Room (k : Nat) (A : Around) : Prop where
  hd : A.handled = none
  dp : A.depth + 3 * k + 5 < recursionLimit
  un : A.units + 16 * k + 200 < cLine
theorem Room.mono {j k : Nat} {A : Around} (r : Room k A) (h : j ≤ k) : Room j A := ⟨r.hd, by have := r.dp; omega, by have := r.un; omega⟩
theorem Room.deeper {k : Nat} {A : Around} (r : Room (k + 1) A) (env : Env) : Room k (A.deeper env) :=
  ⟨r.hd, by have := r.dp; show A.depth + 1 + 3 * k + 5 < _; omega, by have := r.un; show A.units + 3 + 16 * k + 200 < _; omega⟩
theorem make_depth {A : Around} {C : Addr} {us : List Value} {kw : List (Str × Value)} : (A.under (.builtin "type.__call__" ⟨.ref C :: us, kw⟩)).depth = A.depth + 1 := by
  first | rfl | simp [Around.under, Code.weight, Code.isCreation, Code.isGuard, Code.isCaller, Code.frames, Code.isFrame, guardIds]
theorem make_units {A : Around} {C : Addr} {us : List Value} {kw : List (Str × Value)} : (A.under (.builtin "type.__call__" ⟨.ref C :: us, kw⟩)).units = A.units + 1 := by
  first | rfl | simp [Around.under, Code.cUnits, Code.frames, Code.isFrame]
theorem Room.make {k : Nat} {A : Around} (r : Room (k + 1) A) (C : Addr) (us : List Value) (kw : List (Str × Value)) : Room k (A.under (.builtin "type.__call__" ⟨.ref C :: us, kw⟩)) :=
  ⟨r.hd, by have := r.dp; rw [make_depth]; omega, by have := r.un; rw [make_units]; omega⟩
theorem Room.depth {k : Nat} {A : Around} (r : Room k A) : A.depth < recursionLimit := by have := r.dp; omega
theorem Room.units {k : Nat} {A : Around} (r : Room k A) : A.units + 64 < cLine := by have := r.un; omega
/-! ### argument lists and displays -/
def tNil : TA := fun _ H Q => Q [] H
def tCons (ta : TE) (tr : TA) : TA := fun σ H Q => ta σ H fun x H1 => tr σ H1 fun xs H2 => Q (x :: xs) H2
section
variable {X : Cx} {e : Expr} {es : List Expr} {te : TE} {t : TA} {pos : Pos}
theorem pa_nil : PA X [] tNil := fun _ _ _ _ H Q I h => Calls.spliced_nil ⟨[], H, I, .nil, h⟩
theorem pa_cons (ha : PE X e te) (hr : PA X es t) (hs : starEach (e :: es) X.env = (false, eval e X.env) :: starEach es X.env := by rfl) : PA X (e :: es) (tCons te t) := by
  intro pos pins s σ H Q I h
  rw [hs]
  show wpAny _ _ (spliced ((false, eval e X.env) :: backTo pos (starEach es X.env))) _ _ s
  refine Calls.spliced_cons (thn (ha pins s σ H _ I h) fun u s1 ⟨x, H1, I1, r1, q1⟩ => ?_)
  exact thn (hr pos pins s1 σ H1 _ I1 q1) fun us s2 ⟨xs, H2, I2, r2, q2⟩ => ⟨x :: xs, H2, I2, .cons r1 r2, q2⟩

/-- a tuple, a list of written items -/
def tTup (t : TA) : TE := fun σ H Q => t σ H fun xs H1 => xs.length ≤ sizeLine ∧ ∀ p, H1 p = none → Q (.ref p) (upd H1 p (.tup xs))
def tLst (t : TA) : TE := fun σ H Q => t σ H fun xs H1 => xs.length ≤ sizeLine ∧ ∀ p, H1 p = none → Q (.ref p) (upd H1 p (.lst xs))
theorem pe_tup {x1} (h : PA X es t) : PE X (.Tuple es x1 pos) (tTup t) := by
  intro pins s σ H Q I hq
  refine wpAny_Tuple_spliced (thn (h pos pins s σ H _ I hq) fun us s1 ⟨xs, H1, I1, r, z, q⟩ => ⟨by rw [← r.length]; exact z, ?_⟩)
  have hf : H1 s1.heap.objs.size = none := I1.hok.fresh (Nat.le_refl _)
  refine ⟨.ref s1.heap.objs.size, upd H1 s1.heap.objs.size (.tup xs), I1.laid (t' := s1.toks) (fun b u e => Heap.get?_push_of_some _ e) (Nat.le_refl _) ?_, rfl, q _ hf⟩
  exact ⟨z, us, r, ⟨_, Heap.get?_push_size _ rfl, rfl, _, rfl⟩⟩
theorem pe_lst (h : PA X es t) : PE X (.List es pos) (tLst t) := by
  intro pins s σ H Q I hq
  refine wpAny_List_spliced (thn (h pos pins s σ H _ I hq) fun us s1 ⟨xs, H1, I1, r, z, q⟩ => ⟨by rw [← r.length]; exact z, ?_⟩)
  have hf : H1 s1.heap.objs.size = none := I1.hok.fresh (Nat.le_refl _)
  refine ⟨.ref s1.heap.objs.size, upd H1 s1.heap.objs.size (.lst xs), I1.laid (t' := s1.toks) (fun b u e => Heap.get?_push_of_some _ e) (Nat.le_refl _) ?_, rfl, q _ hf⟩
  exact ⟨z, us, 0, r, Heap.get?_push_size _ rfl⟩
end

/-! ### what a def promises -/
/-- a def's promise: the bound arguments in the parameters' order, the heap, the wanted end, the wanted exception -/
abbrev Sp := List V → Hp → VK → XK → Prop
/-- how an exception lies behind a call (file 08 gives it): the callers' frames, abstract heap and state ahead of the call, the wish, the exception, the state -/
abbrev CXT := List Env → Hp → Shared → XK → Value → Shared → Prop

/-- the state at a call -/
structure Env0 (P : Program) (w : World) (K : PySem.W.Frag) (mg : Str → Option Value) (base : Heap) (A : Around) (outer : List Env) (s : Shared) (H : Hp) : Prop where
  frames : A.frames = some outer
  mod : Mod K mg base
  bs : ∀ b o, base.get? b = some o → s.heap.get? b = some o ∧ H b = none
  bsz : base.objs.size ≤ s.heap.objs.size
  funs : s.heap.FunFrames base outer
  frf : ∀ b ∈ frs outer, H b = none
  hok : HOk P w H s.heap
  bare : AllBare s.gens
/-- a call's end -/
def CE (outer : List Env) (P : Program) (w : World) (H : Hp) (s : Shared) (Q : VK) (u : Value) (s' : Shared) : Prop :=
  ∃ v H', s'.os = s.os ∧ AllBare s'.gens ∧ Un (frs outer) [] H H' s.heap s'.heap ∧ HOk P w H' s'.heap ∧ RelV v u ∧ Q v H'
def CR (CX : CXT) (outer : List Env) (P : Program) (w : World) (H : Hp) (s : Shared) (Q : VK) (E : XK) (r : Result) (s' : Shared) : Prop :=
  match r with
  | .ok (.ret u) => CE outer P w H s Q u s'
  | .ok _ => False
  | .error e => CX outer H s E e s'
structure FnOk (P : Program) (w : World) (K : PySem.W.Frag) (mg : Str → Option Value) (base : Heap) (CX : CXT) (k : Nat) (f : Addr) (fd : FuncData) (ps : List Str) (sp : Sp) : Prop where
  len : ∀ vs H Q E, sp vs H Q E → vs.length = ps.length
  run : ∀ (A : Around) (outer : List Env) (s : Shared) (H : Hp) (args : Args) (us : List Value) (vs : List V) (Q : VK) (E : XK), Room k A → Env0 P w K mg base A outer s H → BindsTo s fd args (ps.zip us) → Vals vs us → sp vs H Q E →
    codeAny (model P w) A (.call (.ref f) args) (CR CX outer P w H s Q E) s
theorem FnOk.mono {P : Program} {w : World} {K : PySem.W.Frag} {mg : Str → Option Value} {base : Heap} {CX : CXT} {j k : Nat} {f : Addr} {fd : FuncData} {ps : List Str} {sp : Sp} (F : FnOk P w K mg base CX j f fd ps sp) (h : j ≤ k) :
    FnOk P w K mg base CX k f fd ps sp := ⟨F.len, fun A outer s H args us vs Q E hr => F.run A outer s H args us vs Q E (hr.mono h)⟩
theorem Env0.make {P : Program} {w : World} {K : PySem.W.Frag} {mg : Str → Option Value} {base : Heap} {A : Around} {outer : List Env} {s : Shared} {H : Hp} (e : Env0 P w K mg base A outer s H) (C : Addr) (us : List Value) (kw : List (Str × Value)) :
    Env0 P w K mg base (A.under (.builtin "type.__call__" ⟨.ref C :: us, kw⟩)) outer s H := ⟨by first | exact e.frames | (simpa [Around.under, Code.envs, Code.isFrame, pushEnvs] using e.frames), e.mod, e.bs, e.bsz, e.funs, e.frf, e.hok, e.bare⟩
section
variable {X : Cx} {pins : List (Addr × Obj)} {σ : St} {H : Hp} {s s' : Shared}
/-- from a body: what a callee wants -/
theorem Inv.env0 (I : Inv X pins σ H s) : Env0 X.prog X.w X.K X.mg X.base X.A X.stack s H :=
  ⟨I.ok.frames, I.ok.mod, I.bs, Nat.le_trans I.ok.bsz I.sz, I.stack, I.stkFree, I.hok, I.bare⟩
/-- behind a call -/
theorem Inv.after {Q : VK} {u : Value} (I : Inv X pins σ H s) (h : CE X.stack X.prog X.w H s Q u s') : EP X pins σ Q u s' := by
  obtain ⟨v, H', os, bare, un, hok, r, q⟩ := h
  obtain ⟨hh, g, d, t, os'⟩ := s'
  obtain rfl : os' = s.os := os
  exact ⟨v, H', I.call (h' := hh) (g' := g) (d' := d) (t' := t) (ch := []) un hok bare (fun b z => absurd z (by simp)), r, q⟩
end

/-! ### calls -/
/-- f(..): the written arguments, then the defaults dvs; E: what is wanted of an exception -/
def tCall (sp : Sp) (dvs : List V) (E : XK) (t : TA) : TE := fun σ H Q => t σ H fun vs H1 => sp (vs ++ dvs) H1 Q E
/-- o.m(..) of an instance of the class at C -/
def tMeth (C : Addr) (m : Str) (sp : Sp) (dvs : List V) (E : XK) (ta : TE) (t : TA) : TE := fun σ H Q => ta σ H fun x H1 => ∃ a dx fs, x = .ref a ∧ H1 a = some (.ins C dx fs) ∧ fs.lookup m = none ∧
  t σ H1 fun vs H2 => sp (x :: (vs ++ dvs)) H2 Q E
/-- C(..): a new instance and its dict, then __init__ -/
def tMake (C : Addr) (sp : Sp) (dvs : List V) (E : XK) (t : TA) : TE := fun σ H Q => t σ H fun vs H1 => ∀ x dx, H1 x = none → H1 dx = none → dx ≠ x →
  sp (.ref x :: (vs ++ dvs)) (upd (upd H1 dx (.own x)) x (.ins C dx [])) (fun v H2 => v = .non ∧ Q (.ref x) H2) E

/-- how the parameters are bound: us the positional arguments, kw the keywords' values by name, ds the defaults that fill up -/
def Binds (K : PySem.W.Frag) (fd : FuncData) (ps : List Str) (ds : List Value) : Prop :=
  ∀ (s : Shared) (us : List Value), K.In s.heap → (us ++ ds).length = ps.length → BindsTo s fd ⟨us, []⟩ (ps.zip (us ++ ds))
/-- every parameter is given -/
theorem Binds.all {K : PySem.W.Frag} {fd : FuncData} {ps : List Str} (h : ∀ us : List Value, us.length = ps.length → bindArgs fd ⟨us, []⟩ = pure (ps.zip us)) : Binds K fd ps [] := fun s us _ hl => by
  rw [List.append_nil] at hl ⊢
  exact .of_eq (h us hl)

/-- an exception of a callee reaches what this body wants of exceptions -/
def Passes (CX : CXT) (X : Cx) (E : XK) : Prop := ∀ (pins : List (Addr × Obj)) (σ : St) (H : Hp) (s : Shared) (e : Value) (s' : Shared), Inv X pins σ H s → CX X.stack H s E e s' → X.xe e s'

section
variable {X : Cx} {CX : CXT} {k : Nat} {f C : Addr} {fd : FuncData} {ps : List Str} {sp : Sp} {dvs : List V} {ds : List Value} {E : XK} {x m : Str} {p pos apos : Pos} {e o : Expr} {es : List Expr} {ta : TE} {t : TA}

/-- the callee runs -/
theorem run_fn {pins : List (Addr × Obj)} {σ : St} {H : Hp} {s : Shared} {Q : VK} {us : List Value} {vs : List V} (F : FnOk X.prog X.w X.K X.mg X.base CX k f fd ps sp) (hr : Room k X.A) (hb : Binds X.K fd ps ds) (hd : Vals dvs ds) (hx : Passes CX X E)
    (I : Inv X pins σ H s) (r : Vals vs us) (h : sp (vs ++ dvs) H Q E) : wpAny (model X.prog X.w) X.A (call (.ref f) us) (EP X pins σ Q) X.xe s := by
  have r2 : Vals (vs ++ dvs) (us ++ ds) := r.append hd
  have hl : (us ++ ds).length = ps.length := by rw [← r2.length]; exact F.len _ _ _ _ h
  refine wpAny_call (codeAny_mono (F.run X.A X.stack s H ⟨us, []⟩ (us ++ ds) (vs ++ dvs) Q E hr I.env0 (hb s us I.kIn hl) r2 h) fun r s' hq => ?_)
  cases r with
  | error e => exact hx pins σ H s e s' I hq
  | ok fl =>
    cases fl with
    | ret u => exact I.after hq
    | next => exact False.elim hq
    | brk => exact False.elim hq
    | cont => exact False.elim hq

theorem pe_call (F : FnOk X.prog X.w X.K X.mg X.base CX k f fd ps sp) (hr : Room k X.A) (hg : Gl X x) (hm : X.mg x = some (.ref f)) (hk : PySem.W.keepIn X.K (.ref f) = true) (hb : Binds X.K fd ps ds) (hd : Vals dvs ds) (hx : Passes CX X E)
    (ha : PA X (e :: es) t) (hdb : (x == ("__debug__" : Str)) = false := by decide) (he : starEach (e :: es) X.env = (false, eval e X.env) :: starEach es X.env := by rfl) (hpl : (backTo pos (starEach es X.env)).any (·.1) = false := by rfl) :
    PE X (.Call (.Name x p) (e :: es) [] pos) (tCall sp dvs E t) := by
  intro pins s σ H Q I h
  refine wpAny_Call_Name_kw (ld_glob I hg hm ?_ hdb)
  refine PySem.W.callWith_K (h₀ := X.base) I.ok.mod.kin hk (thn (ha pos pins s σ H _ I h) fun us s1 ⟨vs, H1, I1, r, q⟩ => ⟨I1.kIn, ?_⟩) he hpl
  exact run_fn F hr hb hd hx I1 r q
/-- what a class must have to be made -/
structure Mk (K : PySem.W.Frag) (C f : Addr) : Prop where
  makes : PySem.W.makesIn K C = true
  init : PySem.W.findIn K (.ref C) "__init__" = some (some (.ref f))
  fn : PySem.W.isFn K (.ref f) = true
  kp : PySem.W.keepIn K (.ref C) = true

theorem run_make {pins : List (Addr × Obj)} {σ : St} {H : Hp} {s : Shared} {Q : VK} {us : List Value} {vs : List V} (M : Mk X.K C f) (F : FnOk X.prog X.w X.K X.mg X.base CX k f fd ps sp) (hr : Room (k + 1) X.A) (hb : Binds X.K fd ps ds) (hd : Vals dvs ds)
    (hx : Passes CX X E) (I : Inv X pins σ H s) (r : Vals vs us)
    (h : ∀ x dx, H x = none → H dx = none → dx ≠ x → sp (.ref x :: (vs ++ dvs)) (upd (upd H dx (.own x)) x (.ins C dx [])) (fun v H2 => v = .non ∧ Q (.ref x) H2) E) :
    wpAny (model X.prog X.w) X.A (call (.ref C) us) (EP X pins σ Q) X.xe s := by
  have hq := h (s.heap.objs.size + 1) s.heap.objs.size (I.hok.fresh (Nat.le_succ _)) (I.hok.fresh (Nat.le_refl _)) (Nat.ne_of_lt (Nat.lt_succ_self _))
  have I2 := Inv.made (C := C) I
  have r2 : Vals (V.ref (s.heap.objs.size + 1) :: (vs ++ dvs)) (Value.ref (s.heap.objs.size + 1) :: (us ++ ds)) := .cons rfl (r.append hd)
  have hl : (Value.ref (s.heap.objs.size + 1) :: us ++ ds).length = ps.length := by
    have e := r2.length
    rw [F.len _ _ _ _ hq] at e
    exact e.symm
  refine wpAny_call (make_map (f := f) I.kIn M.makes M.init (beq_iff_eq.mp M.fn) (codeAny_mono (F.run _ X.stack _ _ ⟨Value.ref (s.heap.objs.size + 1) :: us, []⟩ (Value.ref (s.heap.objs.size + 1) :: (us ++ ds)) _ _ E (hr.make C us [])
    (I2.env0.make C us []) (hb _ (Value.ref (s.heap.objs.size + 1) :: us) I2.kIn hl) r2 hq) fun r s' hq' => ?_))
  cases r with
  | error e => exact hx pins σ _ _ e s' I2 hq'
  | ok fl =>
    cases fl with
    | ret u =>
      obtain ⟨v, H', I3, rv, ev, q3⟩ := I2.after hq'
      subst ev
      exact ⟨rv, ⟨V.ref (s.heap.objs.size + 1), H', I3, rfl, q3⟩⟩
    | next => exact False.elim hq'
    | brk => exact False.elim hq'
    | cont => exact False.elim hq'
theorem pe_make (M : Mk X.K C f) (F : FnOk X.prog X.w X.K X.mg X.base CX k f fd ps sp) (hr : Room (k + 1) X.A) (hg : Gl X x) (hm : X.mg x = some (.ref C)) (hb : Binds X.K fd ps ds) (hd : Vals dvs ds) (hx : Passes CX X E)
    (ha : PA X (e :: es) t) (hdb : (x == ("__debug__" : Str)) = false := by decide) (he : starEach (e :: es) X.env = (false, eval e X.env) :: starEach es X.env := by rfl) (hpl : (backTo pos (starEach es X.env)).any (·.1) = false := by rfl) :
    PE X (.Call (.Name x p) (e :: es) [] pos) (tMake C sp dvs E t) := by
  intro pins s σ H Q I h
  refine wpAny_Call_Name_kw (ld_glob I hg hm ?_ hdb)
  refine PySem.W.callWith_K (h₀ := X.base) I.ok.mod.kin M.kp (thn (ha pos pins s σ H _ I h) fun us s1 ⟨vs, H1, I1, r, q⟩ => ⟨I1.kIn, ?_⟩) he hpl
  exact run_make M F hr hb hd hx I1 r q
end

/-! ### keywords -/
/-- the values of the keywords, from the left -/
def PK (X : Cx) (kws : List Keyword) (t : TA) : Prop :=
  ∀ (pos : Pos) (pins : List (Addr × Obj)) (s : Shared) (σ : St) (H : Hp) (Q : List V → Hp → Prop), Inv X pins σ H s → t σ H Q → wpAny (model X.prog X.w) X.A (evalAll ((backToKw pos (keywordEach kws X.env)).map (·.2))) (AP X pins σ Q) X.xe s
section
variable {X : Cx} {CX : CXT} {k : Nat} {f C : Addr} {fd : FuncData} {ps ks : List Str} {sp : Sp} {E : XK} {x m : Str} {p pos apos kpos : Pos} {e o : Expr} {es : List Expr} {kws : List Keyword} {te ta : TE} {t tk : TA} {nm : Option Str}
/-- how a call with keywords binds: g puts the positional values us and the keywords' values ws (names ks) in the parameters' order, defaults among them -/
structure KBinds (K : PySem.W.Frag) (fd : FuncData) (ps ks : List Str) (g : List Value → List Value → List Value) (gV : List V → List V → List V) : Prop where
  to : ∀ (s : Shared) (us ws : List Value), K.In s.heap → (g us ws).length = ps.length → BindsTo s fd ⟨us, ks.zip ws⟩ (ps.zip (g us ws))
  rel : ∀ {vs : List V} {us : List Value} {zs : List V} {ws : List Value}, Vals vs us → Vals zs ws → Vals (gV vs zs) (g us ws)
def tCallK (sp : Sp) (gV : List V → List V → List V) (E : XK) (t tk : TA) : TE := fun σ H Q => t σ H fun vs H1 => tk σ H1 fun zs H2 => sp (gV vs zs) H2 Q E
variable {g : List Value → List Value → List Value} {gV : List V → List V → List V}
end

/-! ### a def's body keeps its promise -/
/-- names: the parameters first -/
structure FnScope (N P : List Str) (sc : Scope) : Prop where
  kind : sc.kind = .function
  co : sc.isCoroutine = false
  gen : sc.isGenerator = false
  nd : N.Nodup
  pre : N.take P.length = P
  par : ∀ x ∈ P, sc.names.lookup x = some .local ∨ sc.names.lookup x = some .cell
  nofree : ∀ y ∈ sc.names, y.2 ≠ .free

theorem bindL_out {kindOf : Str → Option NameKind} {x : Str} : ∀ {binds : List (Str × Value)} {m : Str → Option Value}, (∀ v, (x, v) ∉ binds) → bindL kindOf binds m x = m x
  | [], _, _ => rfl
  | (n, v) :: r, m, h => by
    unfold bindL
    rw [bindL_out fun w hw => h w (List.mem_cons_of_mem _ hw)]
    split
    · have : x ≠ n := by rintro rfl; exact h v List.mem_cons_self
      simp [this]
    · rfl
theorem bindC_out {kindOf : Str → Option NameKind} {x : Str} : ∀ {binds : List (Str × Value)} {m : Str → Option Value}, (∀ v, (x, v) ∉ binds) → bindC kindOf binds m x = m x
  | [], _, _ => rfl
  | (n, v) :: r, m, h => by
    unfold bindC
    rw [bindC_out fun w hw => h w (List.mem_cons_of_mem _ hw)]
    split
    · rfl
    · have : x ≠ n := by rintro rfl; exact h v List.mem_cons_self
      simp [this]
theorem bindL_get {kindOf : Str → Option NameKind} {x : Str} {v : Value} : ∀ {P : List Str} {vs : List Value} {i : Nat} {m : Str → Option Value}, P.Nodup → P[i]? = some x → vs[i]? = some v → kindOf x = some .local →
    bindL kindOf (P.zip vs) m x = some v
  | [], _, _, _, _, h, _, _ => by simp at h
  | _ :: _, [], _, _, _, _, h, _ => by simp at h
  | p :: P, w :: vs, 0, m, nd, h1, h2, hk => by
    simp at h1 h2; subst h1; subst h2
    show bindL kindOf ((p, w) :: P.zip vs) m p = _
    unfold bindL
    rw [bindL_out fun v hv => (List.nodup_cons.mp nd).1 (List.of_mem_zip hv).1, if_pos hk]
    simp
  | p :: P, w :: vs, i + 1, m, nd, h1, h2, hk => by
    show bindL kindOf ((p, w) :: P.zip vs) m x = _
    unfold bindL
    exact bindL_get (i := i) (List.nodup_cons.mp nd).2 (by simpa using h1) (by simpa using h2) hk
theorem bindC_get {kindOf : Str → Option NameKind} {x : Str} {v : Value} : ∀ {P : List Str} {vs : List Value} {i : Nat} {m : Str → Option Value}, P.Nodup → P[i]? = some x → vs[i]? = some v → kindOf x ≠ some .local →
    bindC kindOf (P.zip vs) m x = some v
  | [], _, _, _, _, h, _, _ => by simp at h
  | _ :: _, [], _, _, _, _, h, _ => by simp at h
  | p :: P, w :: vs, 0, m, nd, h1, h2, hk => by
    simp at h1 h2; subst h1; subst h2
    show bindC kindOf ((p, w) :: P.zip vs) m p = _
    unfold bindC
    rw [bindC_out fun v hv => (List.nodup_cons.mp nd).1 (List.of_mem_zip hv).1, if_neg hk]
    simp
  | p :: P, w :: vs, i + 1, m, nd, h1, h2, hk => by
    show bindC kindOf ((p, w) :: P.zip vs) m x = _
    unfold bindC
    exact bindC_get (i := i) (List.nodup_cons.mp nd).2 (by simpa using h1) (by simpa using h2) hk

/-- the names' values at the entry -/
def start (N : List Str) (vs : List V) : St := vs.map some ++ List.replicate (N.length - vs.length) none

/-- the context of a def's body, at its entry; an exception leaves the frame, then lies as CX says -/
def cxOf (CX : CXT) (P : Program) (w : World) (K : PySem.W.Frag) (mg : Str → Option Value) (base : Heap) (N : List Str) (qual : Str) (scope : Scope) (f : Addr) (cd : Value) (A : Around) (outer : List Env) (s : Shared) (H : Hp) (E : XK) : Cx where
  prog := P
  w := w
  K := K
  mg := mg
  base := base
  A := A.deeper (envOfC qual scope s.heap.objs.size f cd)
  N := N
  s₀ := s
  H₀ := H
  env := envOfC qual scope s.heap.objs.size f cd
  outer := outer
  stack := envOfC qual scope s.heap.objs.size f cd :: outer
  ex := []
  calm := true
  fn := fun _ => true
  pn := []
  xe := fun e s' => wpAny (model P w) (A.deeper (envOfC qual scope s.heap.objs.size f cd)) (leaving (envOfC qual scope s.heap.objs.size f cd) e) (fun _ s'' => CX outer H s E e s'') (fun e' s'' => CX outer H s E e' s'') s'

theorem cell_has {sc : Scope} {n : Nat} {x : Str} (h : sc.names.lookup x = some .cell) : ∃ c, (cellsFrom n sc.names []).lookup x = some c := by
  have q := PySem.W.cellsFrom_some sc.names n [] (.inl h)
  exact Option.isSome_iff_exists.mp q

theorem inv_start {CX : CXT} {P : Program} {w : World} {K : PySem.W.Frag} {mg : Str → Option Value} {base : Heap} {N ps : List Str} {qual : Str} {scope : Scope} {f : Addr} {cd : Value} {A : Around} {outer : List Env} {s s1 : Shared} {H : Hp} {E : XK} {us : List Value} {vs : List V}
    (S : FnScope N ps scope) (hd : A.handled = none) (e0 : Env0 P w K mg base A outer s H) (hl : vs.length = ps.length) (r : Vals vs us)
    (x : InCallC s s.heap.objs.size (bindL (envOfC qual scope s.heap.objs.size f cd).kindOf (ps.zip us) fun _ => none) (cellsFrom (s.heap.objs.size + 1) scope.names []) (bindC (envOfC qual scope s.heap.objs.size f cd).kindOf (ps.zip us) fun _ => none) s1) :
    Inv (cxOf CX P w K mg base N qual scope f cd A outer s H E) [] (start N vs) H s1 := by
  have hpl : ps.length ≤ N.length := by have := congrArg List.length S.pre; rw [List.length_take] at this; omega
  obtain ⟨h1, tk, rfl, hk⟩ := x.done
  have noA : ∀ b : Addr, b ∉ (cxOf CX P w K mg base N qual scope f cd A outer s H E).ex := fun b z => absurd (show b ∈ ([] : List Addr) from z) (by simp)
  refine ⟨⟨e0.mod, S.kind, rfl, rfl, Nat.le_refl _, fun y z c h1 h2 => ?_, fun y hy => ?_, fun y c _ h => ?_, fun _ => hd, Around.frames_deeper e0.frames, .inr ⟨rfl, rfl⟩, fun b z => absurd z (noA b), e0.bs, e0.bsz, fun b _ _ => noA b, fun b z => absurd z (noA b), e0.funs, e0.frf⟩,
    rfl, e0.bare, Un.kept hk, ⟨_, x.toInCall.ns, fun i y v h1 h2 h3 => ?_⟩, fun y c h => ⟨_, x.cell y c h⟩, e0.hok.fresh (Nat.le_refl _), fun y c h => ?_, fun p hp => absurd (show p ∈ ([] : List (Addr × Obj)) from hp) (by simp), e0.hok.kept hk, ?_⟩
  · exact name_of_addr x.apart (PySem.mem_of_lookup h1) (PySem.mem_of_lookup h2)
  · have hy : scope.names.lookup y = some .cell ∨ scope.names.lookup y = some .free := hy
    rcases hy with hy | hy
    · exact cell_has hy
    · exact absurd rfl (S.nofree _ (PySem.mem_of_lookup hy))
  · exact Nat.le_of_lt (x.above y c (PySem.mem_of_lookup h))
  · have hi : i < vs.length := by
      unfold start at h2
      by_cases hi : i < vs.length
      · exact hi
      · rw [List.getElem?_append_right (by simpa using hi)] at h2
        rw [List.getElem?_replicate] at h2
        split at h2 <;> cases h2
    have ha : vs[i]? = some v := by
      unfold start at h2
      rw [List.getElem?_append_left (by simpa using hi), List.getElem?_map] at h2
      cases e : vs[i]? with
      | none => rw [e] at h2; cases h2
      | some a => rw [e] at h2; cases h2; rfl
    obtain ⟨u, hu, rv⟩ := r.get ha
    have hp : ps[i]? = some y := by
      rw [← S.pre, List.getElem?_take_of_lt (by omega)]; exact h1
    have ndP : ps.Nodup := by rw [← S.pre]; exact S.nd.sublist (List.take_sublist _ _)
    refine ⟨u, rv, ?_⟩
    rcases S.par y (List.mem_of_getElem? hp) with k | k
    · exact .inl ⟨k, bindL_get ndP hp hu k⟩
    · obtain ⟨c, e⟩ := cell_has (n := s.heap.objs.size + 1) k
      refine .inr ⟨.inl k, c, e, ?_⟩
      have q := x.cell y c e
      rw [bindC_get ndP hp hu (by show scope.names.lookup y ≠ _; rw [k]; decide)] at q
      exact q
  · exact e0.hok.fresh (Nat.le_of_lt (x.above y c (PySem.mem_of_lookup h)))
  · unfold start
    show _ = N.length
    rw [List.length_append, List.length_map, List.length_replicate]
    omega

/-- THE RULE: a def (or a method) of the text, by its body. The body's reading t is chosen for each entry; it is run at the parameters' values -/
theorem fn_of {CX : CXT} {P : Program} {w : World} {K : PySem.W.Frag} {mg : Str → Option Value} {base : Heap} {k : Nat} {f : Addr} {name qual : Str} {params : Arguments} {body : List Stmt} {scope : Scope} {dV kV doc pm cdv ct oc : Value} {an od : Option Addr}
    {osl : Array (Option Value)} {N ps : List Str} {sp : Sp} (lk : K.lookup f = some ⟨oc, od, .func (PySem.W.fnOf name qual params body scope dV kV doc pm an cdv ct), osl⟩) (hcd : PySem.W.codeIn K cdv qual = true) (S : FnScope N ps scope)
    (len : ∀ vs H Q E, sp vs H Q E → vs.length = ps.length)
    (hbody : ∀ (A : Around) (outer : List Env) (s : Shared) (H : Hp) (vs : List V) (Q : VK) (E : XK), Room k (A.deeper (envOfC qual scope s.heap.objs.size f cdv)) → sp vs H Q E →
      ∃ t, PSs (cxOf CX P w K mg base N qual scope f cdv A outer s H E) body t ∧ t { nx := fun _ H' => Q .non H', rt := Q } (start N vs) H) :
    FnOk P w K mg base CX (k + 1) f (PySem.W.fnOf name qual params body scope dV kV doc pm an cdv ct) ps sp := by
  refine ⟨len, fun A outer s H args us vs Q E hr e0 hb r hsp => ?_⟩
  have hl := len _ _ _ _ hsp
  have KX : K.In s.heap := e0.mod.kin.keeps fun b o e => (e0.bs b o e).1
  have lim : s.heap.NoLimit := e0.mod.nolimit.keeps fun b o e => (e0.bs b o e).1
  have hkind : ∀ y ∈ ps.zip us, scope.names.lookup y.1 = some .local ∨ (scope.names.lookup y.1 = some .cell ∧ ((cellsFrom (s.heap.objs.size + 1) scope.names []).lookup y.1).isSome = true) := fun ⟨n, v⟩ hy => by
    rcases S.par n (List.of_mem_zip hy).1 with q | q
    · exact .inl q
    · exact .inr ⟨q, PySem.W.cellsFrom_some _ _ _ (.inl q)⟩
  refine codeAny_call_function hr.depth (KX _ _ lk) rfl S.co S.gen rfl (PySem.W.codeRec_of KX hcd) (hb _ _ _ _ ?_)
  refine wpAny_newFunctionEnv_cells S.kind hkind fun env he s1 x => ?_
  subst he
  refine ⟨lim.keeps x.toInCall.keep, codeAny_func ?_⟩
  obtain ⟨t, ht, hq⟩ := hbody A outer s H vs Q E (hr.deeper _) hsp
  have I : Inv (cxOf CX P w K mg base N qual scope f cdv A outer s H E) [] (start N vs) H s1 := inv_start S hr.hd e0 hl r x
  refine wpAny_mono (ht [] s1 (start N vs) H _ I hq) (fun fl s' hs => ?_) fun e s' hs => hs
  have fin : ∀ {σ' : St} {H' : Hp} {v : V} {u : Value}, Inv (cxOf CX P w K mg base N qual scope f cdv A outer s H E) [] σ' H' s' → RelV v u → Q v H' → CE outer P w H s Q u s' :=
    fun {σ' H' v u} J rv q => ⟨v, H', J.os, J.bare, J.base, J.hok, rv, q⟩
  cases fl with
  | ret u =>
    obtain ⟨v, σ', H', J, rv, q⟩ := hs
    exact fin J rv q
  | next =>
    obtain ⟨σ', H', J, q⟩ := hs
    exact fin (v := V.non) (u := Value.none) J rfl q
  | brk =>
    obtain ⟨_, _, _, q⟩ := hs
    exact False.elim q
  | cont =>
    obtain ⟨_, _, _, q⟩ := hs
    exact False.elim q
end L2

namespace L2
open PySem PySem.Spec PyProof.Rows
section
variable {X : Cx} {x : Str} {p pos : Pos} {e : Expr} {es : List Expr} {t : TA} {id T : String} {r : List V → Hp → VK → Prop}

def tCB (r : List V → Hp → VK → Prop) (t : TA) : TE := fun σ H Q => t σ H fun vs H1 => r vs H1 Q
/-- f(e, ..), f a built-in function -/
theorem pe_callB (hc : CallR X (.builtin id) r) (hg : Gl X x) (hm : X.mg x = none) (hv : bootBuiltins x = some (.builtin id)) (ha : PA X (e :: es) t) (hn : x ≠ "__name__" := by decide) (hdb : (x == ("__debug__" : Str)) = false := by decide)
    (he : starEach (e :: es) X.env = (false, eval e X.env) :: starEach es X.env := by rfl) (hpl : (backTo pos (starEach es X.env)).any (·.1) = false := by rfl) : PE X (.Call (.Name x p) (e :: es) [] pos) (tCB r t) := by
  intro pins s σ H Q I h
  refine wpAny_Call_Name_kw (ld_blt I hg hm hv ?_ hn hdb)
  exact PyProof.Rows.callWith_builtin1 (thn (ha pos pins s σ H _ I h) fun us s1 ⟨vs, H1, I1, r1, q1⟩ => hc pins s1 σ H1 vs us Q I1 r1 q1) he hpl
/-- T(e, ..), T a built-in type -/
theorem pe_callTy (hc : CallR X (.type T) r) (hg : Gl X x) (hm : X.mg x = none) (hv : bootBuiltins x = some (.type T)) (ha : PA X (e :: es) t) (hn : x ≠ "__name__" := by decide) (hdb : (x == ("__debug__" : Str)) = false := by decide)
    (he : starEach (e :: es) X.env = (false, eval e X.env) :: starEach es X.env := by rfl) (hpl : (backTo pos (starEach es X.env)).any (·.1) = false := by rfl) : PE X (.Call (.Name x p) (e :: es) [] pos) (tCB r t) := by
  intro pins s σ H Q I h
  refine wpAny_Call_Name_kw (ld_blt I hg hm hv ?_ hn hdb)
  exact PyProof.Rows.callWith_type1 (thn (ha pos pins s σ H _ I h) fun us s1 ⟨vs, H1, I1, r1, q1⟩ => hc pins s1 σ H1 vs us Q I1 r1 q1) he hpl
end
end L2

namespace HT
open PySem PyProof.Rows

/-- t < u of tuples of ints -/
def lexLt : List Int → List Int → Bool
  | [], [] => false
  | [], _ :: _ => true
  | _ :: _, [] => false
  | x :: xs, y :: ys => if x = y then lexLt xs ys else decide (x < y)
section
open PySem.SeqAt
open PySem.AutoSeq1 (wpAny_loadPart')
open PySem.MeetsSeq PySem.MeetsSeq2 PySem.MeetsSeq3

end

section
variable {prog : Program} {w : World} {A : Around} {E : Value → Shared → Prop} {s : Shared}

/-! ### t[a:b], not the whole -/
/-- a slice's bound as a place among n (d where it is left out) -/
def sIx (n d : Nat) : Option Int → Nat
  | none => d
  | some v => if v < 0 then (v + (n : Int)).toNat else min v.toNat n
theorem sIx_none (n d : Nat) : sIx n d none = d := rfl
theorem sIx_nat (n d k : Nat) : sIx n d (some (k : Int)) = min k n := by
  show (if (k : Int) < 0 then ((k : Int) + (n : Int)).toNat else min (k : Int).toNat n) = min k n
  rw [if_neg (by omega), Int.toNat_natCast]
end
end HT

namespace L2
open PySem PySem.Spec PyProof.Rows

/-! ### the parts of a slice -/
abbrev TO := St → Hp → (Option Int → Hp → Prop) → Prop
/-- a slice's part (left out, or an int) -/
def PO (X : Cx) (e : Option Expr) (t : TO) : Prop :=
  ∀ (pins : List (Addr × Obj)) (s : Shared) (σ : St) (H : Hp) (Q : Option Int → Hp → Prop), Inv X pins σ H s → t σ H Q →
    wpAny (model X.prog X.w) X.A (evalPart e X.env) (fun u s' => ∃ o H', Inv X pins σ H' s' ∧ IsPart u o ∧ Q o H') X.xe s
def tNoPart : TO := fun _ H Q => Q none H
def tPart (t : TE) : TO := fun σ H Q => t σ H fun x H1 => ∃ i, x = .int i ∧ Q (some i) H1

section
variable {X : Cx} {e : Expr} {te : TE} {lo hi : Option Expr} {tl th : TO} {pos p2 : Pos}

theorem po_none : PO X none tNoPart := by
  intro pins s σ H Q I h
  rw [evalPart_none]
  exact wpAny_pure ⟨none, H, I, .none, h⟩
theorem po_some (h : PE X e te) : PO X (some e) (tPart te) := by
  intro pins s σ H Q I hw
  rw [evalPart_some]
  refine thn (h pins s σ H _ I hw) fun u s1 ⟨x, H1, I1, r1, q1⟩ => ?_
  obtain ⟨i, rfl, q⟩ := q1
  obtain ⟨t, rfl⟩ := r1
  exact ⟨some i, H1, I1, .int i t, q⟩

/-- what a slice of a value is, by values: the slice object stands at sl -/
def SlR (X : Cx) (r : V → Option Int → Option Int → Hp → VK → Prop) : Prop :=
  ∀ (pins : List (Addr × Obj)) (s : Shared) (σ : St) (H : Hp) (x : V) (v vl vu : Value) (lo hi : Option Int) (sl : Addr) (Q : VK), Inv X pins σ H s → RelV x v → s.heap.IsSliceOf sl vl vu .none → IsPart vl lo → IsPart vu hi → r x lo hi H Q →
    ∃ T id, typeLookup (.type T) "__getitem__" = pure (some (.builtin id)) ∧ s.TypeIs v T ∧ wpAny (model X.prog X.w) X.A (getItem v (.ref sl)) (EP X pins σ Q) X.xe s
def tSl (r : V → Option Int → Option Int → Hp → VK → Prop) (te : TE) (tl th : TO) : TE := fun σ H Q => te σ H fun x H1 => tl σ H1 fun l H2 => th σ H2 fun u H3 => r x l u H3 Q
/-- a[lo:hi], any a -/
theorem pe_slice {r : V → Option Int → Option Int → Hp → VK → Prop} (hr : SlR X r) (he : PE X e te) (hl : PO X lo tl) (hu : PO X hi th) : PE X (.Subscript e (.Slice lo hi none p2) pos) (tSl r te tl th) := by
  intro pins s σ H Q I h
  refine Subscript_ (thn (he pins s σ H _ I h) fun v s1 ⟨x, H1, I1, r1, q1⟩ => ?_)
  refine wpAny_Slice (thn (hl pins s1 σ H1 _ I1 q1) fun vl s2 ⟨l, H2, I2, pl, q2⟩ => thn (hu pins s2 σ H2 _ I2 q2) fun vu s3 ⟨u, H3, I3, pu, q3⟩ => ?_)
  rw [evalPart_none]
  refine wpAny_pure ?_
  have I4 : Inv X pins σ H3 { s3 with heap := s3.heap.push { cls := .type "slice", data := .fields #[vl, vu, .none] } } := I3.kept (t' := s3.toks) fun b ob q => Heap.get?_push_of_some _ q
  obtain ⟨T, id, hT, ht, hg⟩ := hr pins { s3 with heap := s3.heap.push { cls := .type "slice", data := .fields #[vl, vu, .none] } } σ H3 x v vl vu l u s3.heap.objs.size Q I4 r1 (Heap.IsSliceOf.new ..) pl pu q3
  show wpAny (model X.prog X.w) X.A (subscriptTail e (.Slice lo hi none p2) v (.ref s3.heap.objs.size)) (EP X pins σ Q) X.xe { s3 with heap := s3.heap.push { cls := .type "slice", data := .fields #[vl, vu, .none] } }
  exact tail_any (ops := [.ref s3.heap.objs.size, v]) ht hT hg (by with_unfolding_all rfl)

/-- the items of xs[lo:hi] -/
def cutV (xs : List V) (lo hi : Option Int) : List V := (xs.drop (HT.sIx xs.length 0 lo)).take (HT.sIx xs.length xs.length hi - HT.sIx xs.length 0 lo)
theorem cutV_length (xs : List V) (lo hi : Option Int) : (cutV xs lo hi).length ≤ xs.length := by
  unfold cutV
  rw [List.length_take, List.length_drop]
  omega
/-- t[lo:hi], not the whole of it (the whole would be t itself) -/
def rSlT (K : PySem.W.Frag) : V → Option Int → Option Int → Hp → VK → Prop := fun x lo hi H Q => ∃ a xs, x = .ref a ∧ SqT K H a xs ∧
  ¬ (HT.sIx xs.length 0 lo = 0 ∧ HT.sIx xs.length xs.length hi = xs.length) ∧ ∀ p, H p = none → Q (.ref p) (upd H p (.tup (cutV xs lo hi)))
/-! ### t < u, t + u -/
def rLtT (K : PySem.W.Frag) : R2 := fun x y H Q => ∃ a b ns ms, x = .ref a ∧ y = .ref b ∧ SqT K H a (ns.map V.int) ∧ SqT K H b (ms.map V.int) ∧ Q (.bl (HT.lexLt ns ms)) H
/-- t + u, t not empty: u empty gives t itself -/
def rCatT (K : PySem.W.Frag) : R2 := fun x y H Q => ∃ a b xs ys, x = .ref a ∧ y = .ref b ∧ SqT K H a xs ∧ SqT K H b ys ∧ xs ≠ [] ∧ xs.length + ys.length ≤ sizeLine ∧
  (ys = [] → Q (.ref a) H) ∧ (ys ≠ [] → ∀ p, H p = none → Q (.ref p) (upd H p (.tup (xs ++ ys))))
end
end L2

namespace L2
open PySem PySem.Spec PyProof.Rows

/-! ### places -/
/-- the place that an index of any sign means -/
def ixN (n : Nat) (i : Int) : Option Nat := if 0 ≤ i then (if i < n then some i.toNat else none) else if -(n : Int) ≤ i then some (i + n).toNat else none
def atI {α : Type} (xs : List α) (i : Int) : Option α := (ixN xs.length i).bind fun j => xs[j]?
theorem ixN_seq {n : Nat} {i : Int} {j : Nat} (h : ixN n i = some j) : seqIndex? i n = some j ∧ j < n ∧ -(n : Int) ≤ i ∧ i < n := by
  unfold ixN at h
  by_cases h0 : 0 ≤ i
  · rw [if_pos h0] at h
    by_cases h1 : i < n
    · rw [if_pos h1] at h
      have e : i.toNat = j := Option.some.inj h
      exact ⟨by rw [seqIndex_of h0 h1, e], by omega, by omega, h1⟩
    · rw [if_neg h1] at h; cases h
  · rw [if_neg h0] at h
    by_cases h1 : -(n : Int) ≤ i
    · rw [if_pos h1] at h
      have e : (i + n).toNat = j := Option.some.inj h
      exact ⟨by rw [seqIndex_neg (by omega) h1, e], by omega, h1, by omega⟩
    · rw [if_neg h1] at h; cases h
theorem atI_get {α : Type} {xs : List α} {i : Int} {v : α} (h : atI xs i = some v) : ∃ j, seqIndex? i xs.length = some j ∧ xs[j]? = some v ∧ j < xs.length ∧ -(xs.length : Int) ≤ i ∧ i < xs.length := by
  unfold atI at h
  cases e : ixN xs.length i with
  | none => rw [e] at h; cases h
  | some j =>
    rw [e] at h
    obtain ⟨h1, h2, h3, h4⟩ := ixN_seq e
    exact ⟨j, h1, h, h2, h3, h4⟩
theorem atI_nat {α : Type} {xs : List α} {j : Nat} {v : α} (h : xs[j]? = some v) : atI xs (j : Int) = some v := by
  have hj : j < xs.length := (List.getElem?_eq_some_iff.mp h).1
  have e : ixN xs.length (j : Int) = some j := by
    unfold ixN
    rw [if_pos (by omega), if_pos (by omega)]; simp
  unfold atI; rw [e]; exact h
/-! ### what may be subscripted -/
/-- what stands as an index of a plain subscript -/
def PlainIx (b : Expr) : Prop := ∀ o i, subscripted b false o i = operate [o, i] (getItem o i)
/-- a subscript by values -/
def IxR (X : Cx) (r : R2) : Prop :=
  ∀ (value slice : Expr) (pins : List (Addr × Obj)) (s : Shared) (σ : St) (H : Hp) (x y : V) (v u : Value) (Q : VK), Inv X pins σ H s → RelV x v → RelV y u → r x y H Q →
    subscripted slice false v u = operate [v, u] (getItem v u) → wpAny (model X.prog X.w) X.A (subscriptTail value slice v u) (EP X pins σ Q) X.xe s
/-- a call of a builtin's method by values: the receiver, the arguments -/
def MtR (X : Cx) (id : String) (r : V → List V → Hp → VK → Prop) : Prop :=
  ∀ (pins : List (Addr × Obj)) (s : Shared) (σ : St) (H : Hp) (x : V) (xs : List V) (v : Value) (us : List Value) (Q : VK), Inv X pins σ H s → RelV x v → Vals xs us → r x xs H Q →
    wpAny (model X.prog X.w) X.A (call (.builtin id) (v :: us)) (EP X pins σ Q) X.xe s
section
variable {X : Cx} {a b : Expr} {ta tb : TE} {pos : Pos}
/-- a[b] -/
theorem pe_ix {r : R2} (hr : IxR X r) (ha : PE X a ta) (hb : PE X b tb) (hs : PlainIx b) : PE X (.Subscript a b pos) (tOp r ta tb) := by
  intro pins s σ H Q I h
  exact Subscript_ (binT ha hb I h fun v u s2 x y H2 I2 rx ry q => hr a b pins s2 σ H2 x y v u Q I2 rx ry q (hs _ _))

def rIxL (K : PySem.W.Frag) : R2 := fun x y H Q => ∃ p xs i v, x = .ref p ∧ y = .int i ∧ SqL K H p xs ∧ atI xs i = some v ∧ Q v H
def rIxT (K : PySem.W.Frag) : R2 := fun x y H Q => ∃ p xs i v, x = .ref p ∧ y = .int i ∧ SqT K H p xs ∧ atI xs i = some v ∧ Q v H
def rIxS : R2 := fun x y H Q => ∃ z i c, x = .str z ∧ y = .int i ∧ z.length ≤ sizeLine ∧ atI z.cps.toList i = some c ∧ Q (.str ⟨#[c]⟩) H
theorem ix_list : IxR X (rIxL X.K) := by
  intro value slice pins s σ H x y v u Q I rx ry h hs
  obtain ⟨p, xs, i, z, rfl, rfl, hq, he, q⟩ := h
  cases rx
  obtain ⟨t, rfl⟩ := ry
  obtain ⟨its, r, pl, hz⟩ := I.list hq
  obtain ⟨j, h1, h2, h3, h4, h5⟩ := atI_get he
  obtain ⟨w, ew, rw'⟩ := r.get h2
  have hl := r.length
  have hn := line63
  have fin : EP X pins σ Q w s := ⟨z, H, I, rw', q⟩
  by_cases h0 : 0 ≤ i
  · have hj : i.toNat = j := by
      rw [seqIndex_of h0 h5] at h1
      exact Option.some.inj h1
    exact item_listR pl.isList h0 (by omega) (by rw [hj]; simpa using ew) fin hs
  · have hj : (i + (its.toArray.size : Int)).toNat = j := by
      rw [seqIndex_neg (by omega) h4] at h1
      rw [List.size_toArray, ← hl]
      exact Option.some.inj h1
    exact subscriptTail_builtinR (x := w) pl.isList.typeIs slot_list_getitem.lookup
      (wpAny_getItem_list_neg (Q := fun r s' => r = w ∧ EP X pins σ Q r s') pl.isList (by omega) (by rw [List.size_toArray] <;> omega) (by omega) (by rw [hj]; simpa using ew) ⟨rfl, fin⟩) hs
theorem ix_tup : IxR X (rIxT X.K) := by
  intro value slice pins s σ H x y v u Q I rx ry h hs
  obtain ⟨p, xs, i, z, rfl, rfl, hq, he, q⟩ := h
  cases rx
  obtain ⟨t, rfl⟩ := ry
  obtain ⟨its, r, pl, hz⟩ := I.tuple hq
  obtain ⟨j, h1, h2, h3, h4, h5⟩ := atI_get he
  obtain ⟨w, ew, rw'⟩ := r.get h2
  have hl := r.length
  have hn := line63
  have fin : EP X pins σ Q w s := ⟨z, H, I, rw', q⟩
  exact subscriptTail_builtinR (x := w) pl.typeIs slot_tuple_getitem.lookup
    (getItem_tuple (j := j) (Q := fun r s' => r = w ∧ EP X pins σ Q r s') pl (by omega) (by omega) (by rw [List.size_toArray, ← hl]; exact h1) (by simpa using ew) ⟨rfl, fin⟩) hs
/-- list, tuple or str -/
def rIx (K : PySem.W.Frag) : R2 := fun x y H Q => rIxL K x y H Q ∨ rIxT K x y H Q ∨ rIxS x y H Q
/-! ### xs[i] = v, any sign -/
def rSetL : V → V → V → Hp → (Hp → Prop) → Prop := fun o i v H Q => ∃ p xs k j, o = .ref p ∧ i = .int k ∧ H p = some (.lst xs) ∧ ixN xs.length k = some j ∧ Q (upd H p (.lst (xs.set j v)))
/-! ### slices -/
theorem slice_bounds (lo hi : Option Int) (n : Nat) : (sliceBounds lo hi none n).1 = ((HT.sIx n 0 lo : Nat) : Int) ∧ (sliceBounds lo hi none n).2.1 = ((HT.sIx n n hi : Nat) : Int) ∧ (sliceBounds lo hi none n).2.2 = 1 := by
  refine ⟨?_, ?_, rfl⟩
  · cases lo with
    | none => simp [sliceBounds, HT.sIx]
    | some i =>
      simp only [sliceBounds, HT.sIx, Option.getD_none, show (1 : Int) > 0 by decide, if_true]
      by_cases h : i < 0
      · simp only [h, if_true] <;> omega
      · simp only [h, if_false] <;> omega
  · cases hi with
    | none => simp [sliceBounds, HT.sIx]
    | some i =>
      simp only [sliceBounds, HT.sIx, Option.getD_none, show (1 : Int) > 0 by decide, if_true]
      by_cases h : i < 0
      · simp only [h, if_true] <;> omega
      · simp only [h, if_false] <;> omega
theorem slicePick_cut (its : List Value) (lo hi : Option Int) : slicePick its.toArray lo hi none = ((its.drop (HT.sIx its.length 0 lo)).take (HT.sIx its.length its.length hi - HT.sIx its.length 0 lo)).toArray := by
  obtain ⟨h1, h2, h3⟩ := slice_bounds lo hi its.toArray.size
  unfold slicePick
  rw [h1, h2, h3]
  simp only [sliceRange_one, pick_run, List.size_toArray] <;> rfl
/-- xs[lo:hi] of a list: a new list -/
def rSlL (K : PySem.W.Frag) : V → Option Int → Option Int → Hp → VK → Prop := fun x lo hi H Q => ∃ a xs, x = .ref a ∧ SqL K H a xs ∧ ∀ p, H p = none → Q (.ref p) (upd H p (.lst (cutV xs lo hi)))
theorem sl_list : SlR X (rSlL X.K) := by
  intro pins s σ H x v vl vu lo hi sl Q I rx hs pl pu h
  obtain ⟨a, xs, rfl, hx, q⟩ := h
  cases rx
  obtain ⟨its, r, ht, hz⟩ := I.list hx
  have hlen := r.length
  refine ⟨"list", _, slot_list_getitem.lookup, ht.isList.typeIs, ?_⟩
  refine wpAny_getItem_list_slice ht.isList hs pl pu .none (by simp) ?_ (by rw [List.size_toArray] <;> omega)
  rw [slicePick_cut, ← hlen]
  refine ⟨.ref s.heap.objs.size, _, I.laid (t' := s.toks) (o := .lst (cutV xs lo hi)) (fun b ob q => Heap.get?_push_of_some _ q) (Nat.le_refl _) ?_, rfl, q _ (I.hok.fresh (Nat.le_refl _))⟩
  exact ⟨Nat.le_trans (cutV_length xs lo hi) hz, _, 0, (r.drop (HT.sIx xs.length 0 lo)).take (HT.sIx xs.length xs.length hi - HT.sIx xs.length 0 lo), Heap.get?_push_size _ rfl⟩

/-! ### in, not in: flat items -/
def flatV : V → Bool
  | .non => true
  | .bl _ => true
  | .int _ => true
  | .str _ => true
  | _ => false
/-- == of flat values -/
def eqV : V → V → Bool
  | .non, .non => true
  | .bl a, .bl b => a == b
  | .bl a, .int b => (if a then 1 else 0) == b
  | .int a, .bl b => a == (if b then 1 else 0)
  | .int a, .int b => a == b
  | .str a, .str b => a == b
  | _, _ => false
/-- the items' answers, read off the values (a value's own answer does not lean on its token) -/
def eqU (x : V) (u : Value) : Bool := match u with
  | .none => eqV .non x
  | .bool b => eqV (.bl b) x
  | .int i _ => eqV (.int i) x
  | .str z _ => eqV (.str z) x
  | _ => false
def inV (x : V) (xs : List V) : Bool := xs.any fun y => eqV y x
/-- x in a list or tuple of flat items -/
def rIn (K : PySem.W.Frag) (neg : Bool) : R2 := fun x y H Q => ∃ p xs, y = .ref p ∧ (SqL K H p xs ∨ SqT K H p xs) ∧ flatV x = true ∧ xs.all flatV = true ∧ Q (.bl (if neg then !inV x xs else inV x xs)) H
/-! ### len, list(x), tuple(x) of any list or tuple that is read -/
theorem call_len_seq : CallR X (.builtin "len") (fun xs H Q => ∃ p ys, xs = [.ref p] ∧ (SqL X.K H p ys ∨ SqT X.K H p ys) ∧ Q (.int ys.length) H) := by
  intro pins s σ H xs us Q I r h
  obtain ⟨p, ys, rfl, hq, q⟩ := h
  obtain ⟨u, rfl, rx⟩ := vals1 r
  cases rx
  have hn := line63
  rcases hq with hq | hq
  · obtain ⟨its, r', pl, hz⟩ := I.list hq
    have hlen := r'.length
    exact Calls.call_len_list pl.isList (by simp only [List.size_toArray] <;> omega) ⟨.int ys.length, H, I.tok _, ⟨s.toks + 1, by rw [List.size_toArray, hlen]⟩, q⟩
  · obtain ⟨its, r', pl, hz⟩ := I.tuple hq
    have hlen := r'.length
    exact len_tuple pl (by simp only [List.size_toArray] <;> omega) ⟨.int ys.length, H, I.tok _, ⟨s.toks + 1, by rw [List.size_toArray, hlen]⟩, q⟩
theorem call_len_str : CallR X (.builtin "len") (fun xs H Q => ∃ z, xs = [.str z] ∧ z.length ≤ sizeLine ∧ Q (.int z.length) H) := by
  intro pins s σ H xs us Q I r h
  obtain ⟨z, rfl, hz, q⟩ := h
  obtain ⟨u, rfl, t, rfl⟩ := vals1 r
  have hn := line63
  exact len_str (by omega) ⟨.int z.length, H, I.tok _, ⟨_, rfl⟩, q⟩
theorem CallR.or {f : Value} {r r' : List V → Hp → VK → Prop} (h : CallR X f r) (h' : CallR X f r') : CallR X f (fun xs H Q => r xs H Q ∨ r' xs H Q) := by
  intro pins s σ H xs us Q I rs q
  rcases q with q | q
  · exact h pins s σ H xs us Q I rs q
  · exact h' pins s σ H xs us Q I rs q
theorem call_list_of : CallR X (.type "list") (fun xs H Q => ∃ p ys, xs = [.ref p] ∧ (SqL X.K H p ys ∨ SqT X.K H p ys) ∧ ∀ l, H l = none → Q (.ref l) (upd H l (.lst ys))) := by
  intro pins s σ H xs us Q I r h
  obtain ⟨p, ys, rfl, hq, q⟩ := h
  obtain ⟨u, rfl, rx⟩ := vals1 r
  cases rx
  have fin : ∀ (its : List Value), Vals ys its → ys.length ≤ sizeLine → ∀ (h' : Heap) (c' : Nat), (∀ b o', s.heap.get? b = some o' → h'.get? b = some o') →
      h'.get? s.heap.objs.size = some { cls := .type "list", dict := none, data := .seq its.toArray c', slots := #[] } → EP X pins σ Q (.ref s.heap.objs.size) { s with heap := h' } := fun its r' hz h' c' kp e =>
    ⟨.ref s.heap.objs.size, _, I.laid (t' := s.toks) kp (Nat.le_refl _) (show ObjOk X.prog X.w _ h' _ (.lst ys) from ⟨hz, its, c', r', e⟩), rfl, q _ (I.hok.fresh (Nat.le_refl _))⟩
  rcases hq with hq | hq
  · obtain ⟨its, r', pl, hz⟩ := I.list hq
    have hlen := r'.length
    obtain ⟨o, ho, hc, n, hd⟩ := pl.isList
    exact call_list_seq p (.inl rfl) ho hc hd (fun h' c' kp e => fin its r' hz h' c' kp e) (by simp only [List.size_toArray] <;> omega)
  · obtain ⟨its, r', pl, hz⟩ := I.tuple hq
    have hlen := r'.length
    obtain ⟨o, ho, hc, n, hd⟩ := pl
    exact call_list_seq p (.inr rfl) ho hc hd (fun h' c' kp e => fin its r' hz h' c' kp e) (by simp only [List.size_toArray] <;> omega)
/-! ### the call of a builtin's method: o.m(..) -/
/-- the value is of that builtin type -/
def tyV (K : PySem.W.Frag) (T : String) (x : V) (H : Hp) : Prop := match x with
  | .str _ => T = "str"
  | .int _ => T = "int"
  | .ref p => (T = "list" ∧ ∃ xs, SqL K H p xs) ∨ (T = "tuple" ∧ ∃ o, K.lookup p = some o ∧ o.cls = .type "tuple" ∧ o.dict = none) ∨
      (T = "dict" ∧ ((∃ kvs, H p = some (.dK kvs)) ∨ ∃ kvs, H p = some (.dT kvs))) ∨ (T = "set" ∧ ∃ S n, H p = some (.set S n))
  | _ => False
theorem tyV_is {pins : List (Addr × Obj)} {σ : St} {H : Hp} {s : Shared} {T : String} {x : V} {v : Value} (I : Inv X pins σ H s) (r : RelV x v) (ty : tyV X.K T x H) :
    s.TypeIs v T ∧ ∀ a, v = .ref a → ∃ ob, s.heap.get? a = some ob ∧ ob.dict = none := by
  cases x with
  | str z =>
    obtain ⟨t, rfl⟩ := r
    cases (show T = "str" from ty)
    exact ⟨typeIs_str s z t, fun _ e => nomatch e⟩
  | int i =>
    obtain ⟨t, rfl⟩ := r
    cases (show T = "int" from ty)
    exact ⟨typeIs_int s i t, fun _ e => nomatch e⟩
  | ref p =>
    cases r
    rcases ty with ⟨rfl, xs, hq⟩ | ⟨rfl, o, hk, hc, hd⟩ | ⟨rfl, hk⟩ | ⟨rfl, S, n, hk⟩
    · obtain ⟨its, _, pl, _⟩ := I.list hq
      refine ⟨pl.isList.typeIs, fun a e => ?_⟩
      cases e
      obtain ⟨o, n, e, c, hd, _⟩ := pl
      exact ⟨o, e, hd⟩
    · refine ⟨⟨o, I.kIn p o hk, hc⟩, fun a e => ?_⟩
      cases e
      exact ⟨o, I.kIn _ o hk, hd⟩
    · have z : ∃ o, s.heap.get? p = some o ∧ o.ExactDict := by
        rcases hk with ⟨kvs, hk⟩ | ⟨kvs, hk⟩
        · obtain ⟨_, _, _, _, o, _, _, e, ex, _⟩ := I.hok p _ hk
          exact ⟨o, e, ex⟩
        · obtain ⟨_, _, _, _, o, _, _, e, ex, _⟩ := I.hok p _ hk
          exact ⟨o, e, ex⟩
      obtain ⟨o, e, ex⟩ := z
      refine ⟨⟨o, e, ex.1⟩, fun a e2 => ?_⟩
      cases e2
      exact ⟨o, e, ex.2.1⟩
    · obtain ⟨o, _, _, _, e, ex, _⟩ := I.hok p _ hk
      refine ⟨⟨o, e, ex.1⟩, fun a e2 => ?_⟩
      cases e2
      exact ⟨o, e, ex.2.1⟩
  | _ => exact False.elim ty
def tBM0 (K : PySem.W.Frag) (T : String) (r : V → List V → Hp → VK → Prop) (to : TE) : TE := fun σ H Q => to σ H fun x H1 => tyV K T x H1 ∧ r x [] H1 Q
def tBM (K : PySem.W.Frag) (T : String) (r : V → List V → Hp → VK → Prop) (to : TE) (t : TA) : TE := fun σ H Q => to σ H fun x H1 => tyV K T x H1 ∧ t σ H1 fun xs H2 => r x xs H2 Q
variable {o e : Expr} {es : List Expr} {to : TE} {t : TA} {name : Str} {apos cpos : Pos} {T id : String} {r : V → List V → Hp → VK → Prop}
theorem pe_bm0 (pa : PlainAttrs T) (slot : Slot T name id) (hty : typeOf (.builtin id) = pure (.type "method_descriptor")) (hm : MtR X id r) (ho : PE X o to)
    (hbase : attributeBase o name X.env (eval o X.env) = eval o X.env := by rfl) (hline : (apos.endLine == cpos.line) = true := by rfl) : PE X (.Call (.Attribute o name apos) [] [] cpos) (tBM0 X.K T r to) := by
  intro pins s σ H Q I h
  refine wpAny_Call_method0_late hbase hline (thn (ho pins s σ H _ I h) fun v s1 ⟨x, H1, I1, r1, ty, q1⟩ => ?_)
  obtain ⟨h1, h2⟩ := tyV_is I1 r1 ty
  exact ⟨T, id, pa, slot, hty, h1, h2, Calls.callWith_builtin rfl (PySem.evalArgs_none (hm pins s1 σ H1 x [] v [] Q I1 r1 .nil q1))⟩
theorem pe_bm (pa : PlainAttrs T) (slot : Slot T name id) (hty : typeOf (.builtin id) = pure (.type "method_descriptor")) (hm : MtR X id r) (ho : PE X o to) (ha : PA X (e :: es) t)
    (hbase : attributeBase o name X.env (eval o X.env) = eval o X.env := by rfl)
    (hfew : ((backTo cpos (starEach (e :: es) X.env)).all (fun x => !x.1) && (backToKw cpos (keywordEach [] X.env)).all (fun x => x.1.isSome)
      && decide ((e :: es).length + ([] : List Keyword).length + (if ([] : List Keyword).isEmpty then 0 else 1) < 30)) = true := by rfl)
    (hline : (apos.endLine == cpos.line) = true := by rfl) (hs : starEach (e :: es) X.env = (false, eval e X.env) :: starEach es X.env := by rfl) (hplain : (backTo cpos (starEach es X.env)).any (·.1) = false := by rfl) :
    PE X (.Call (.Attribute o name apos) (e :: es) [] cpos) (tBM X.K T r to t) := by
  intro pins s σ H Q I h
  refine wpAny_Call_method_late hbase hfew hline rfl (thn (ho pins s σ H _ I h) fun v s1 ⟨x, H1, I1, r1, ty, q1⟩ => ?_)
  obtain ⟨h1, h2⟩ := tyV_is I1 r1 ty
  refine ⟨T, id, pa, slot, hty, h1, h2, ?_⟩
  have hA := ha cpos pins s1 σ H1 _ I1 q1
  rw [hs] at hA ⊢
  refine Calls.callWith_builtin (by show (false || (backTo cpos (starEach es X.env)).any (·.1)) = false; rw [hplain] <;> rfl) (Calls.evalArgs_plain ?_)
  exact thn hA fun us s2 ⟨vs, H2, I2, r2, q2⟩ => hm pins s2 σ H2 x vs v us Q I2 r1 r2 q2
/- xs.append(e), list.index on a module's tuple .. are MtR facts of 06m -/
end
end L2

namespace L2
open PySem PySem.Spec PyProof.Rows

def MtM (X : Cx) (id : String) (r : V → List V → Hp → VK → Prop) : Prop :=
  ∀ (pins : List (Addr × Obj)) (s : Shared) (σ : St) (H : Hp) (x : V) (xs : List V) (v : Value) (us : List Value) (Q : VK), Inv X pins σ H s → RelV x v → Vals xs us → r x xs H Q →
    wpAny (model X.prog X.w) X.A (call (.builtin id) (v :: us)) (EP X pins σ Q) X.xe s

/-! ### lists of values -/
theorem Vals.one : ∀ {x : V} {us : List Value}, Vals [x] us → ∃ u, us = [u] ∧ RelV x u
  | _, _, .cons r .nil => ⟨_, rfl, r⟩
theorem Vals.two : ∀ {x y : V} {us : List Value}, Vals [x, y] us → ∃ u v, us = [u, v] ∧ RelV x u ∧ RelV y v
  | _, _, _, .cons r (.cons q .nil) => ⟨_, _, rfl, r, q⟩
theorem Vals.zero : ∀ {us : List Value}, Vals [] us → us = []
  | _, .nil => rfl
section
variable {X : Cx} {pins : List (Addr × Obj)} {σ : St} {H : Hp} {s : Shared} {l b : Addr} {xs ys zs : List V}

/-! ### the two steps: a tracked list is rewritten, a new list is laid -/
theorem Inv.lset {its its' : List Value} {n : Nat} {f : Array Value → Array Value} {t' : Nat} (I : Inv X pins σ H s) (hH : H l = some (.lst xs))
    (e : s.heap.get? l = some { cls := .type "list", data := .seq its.toArray n }) (hf : f its.toArray = its'.toArray) (hv : Vals ys its') (hz : ys.length ≤ sizeLine) :
    Inv X pins σ (upd H l (.lst ys)) { s with heap := s.heap.update l (Obj.mapSeq f), toks := t' } := by
  have q := PySem.IsL.update e f
  rw [hf] at q
  refine I.write (x := l) (e := l) (by rw [hH]; exact trivial) (.inl rfl) (fun b' u hb hu => (Heap.get?_update_other s.heap (Obj.mapSeq f) (Ne.symm hb)).trans hu) ⟨_, q⟩ ?_
  exact ⟨hz, its', _, hv, q⟩
theorem Inv.lnew {its : List Value} {t' : Nat} (I : Inv X pins σ H s) (hv : Vals ys its) (hz : ys.length ≤ sizeLine) :
    Inv X pins σ (upd H s.heap.objs.size (.lst ys)) { s with heap := s.heap.push { cls := .type "list", data := .seq its.toArray }, toks := t' } :=
  I.laid (fun _ _ q => Heap.get?_push_of_some _ q) (Nat.le_refl _) ⟨hz, its, 0, hv, Heap.get?_push_size _ rfl⟩
theorem Inv.fresh (I : Inv X pins σ H s) : H s.heap.objs.size = none := I.hok.fresh (Nat.le_refl _)
theorem Inv.lstM (I : Inv X pins σ H s) (hH : H l = some (.lst xs)) : xs.length ≤ sizeLine ∧ ∃ (its : List Value) (n : Nat), Vals xs its ∧ xs.length = its.length ∧ s.heap.get? l = some { cls := .type "list", data := .seq its.toArray n } := by
  obtain ⟨z, its, n, r, e⟩ := I.hok l _ hH
  exact ⟨z, its, n, r, r.length, e⟩

theorem notLongL {n : Nat} (h : n ≤ sizeLine) : Builtin.List.listTooLong n = false := by
  unfold Builtin.List.listTooLong
  exact decide_eq_false (by omega)
end

section
variable {X : Cx}

/-! ### methods -/
def rAppend : V → List V → Hp → VK → Prop := fun x vs H Q => ∃ l xs y, x = .ref l ∧ vs = [y] ∧ H l = some (.lst xs) ∧ xs.length < sizeLine ∧ Q .non (upd H l (.lst (xs ++ [y])))
theorem mt_append : MtM X "list.append" rAppend := by
  intro pins s σ H x vs v us Q I rx rv h
  obtain ⟨l, xs, y, rfl, rfl, hH, hz, q⟩ := h
  cases rx
  obtain ⟨u, rfl, ru⟩ := rv.one
  obtain ⟨z, its, n, r, hl, e⟩ := I.lstM hH
  refine call_meets F.slot_list_append ⟨_, e, rfl⟩ F.entry_list_append (F.args_list_append_2 _ _) (PySem.list_append l its.toArray n u (by rw [List.size_toArray]; omega)) ⟨e, ?_⟩
  refine ⟨.non, _, I.lset (its' := its ++ [u]) hH e (by simp) (r.append (.cons ru .nil)) ?_, rfl, q⟩
  rw [List.length_append, List.length_singleton]
  omega

def rExtend : V → List V → Hp → VK → Prop := fun x vs H Q => ∃ l b xs zs, x = .ref l ∧ vs = [.ref b] ∧ H l = some (.lst xs) ∧ H b = some (.lst zs) ∧ xs.length + zs.length ≤ sizeLine ∧ Q .non (upd H l (.lst (xs ++ zs)))
def rPop : V → List V → Hp → VK → Prop := fun x vs H Q => ∃ l xs y, x = .ref l ∧ vs = [] ∧ H l = some (.lst xs) ∧ xs[xs.length - 1]? = some y ∧ Q y (upd H l (.lst xs.dropLast))
def rPopAt : V → List V → Hp → VK → Prop := fun x vs H Q => ∃ l xs i k y, x = .ref l ∧ vs = [.int i] ∧ H l = some (.lst xs) ∧ -(2 ^ 63) ≤ i ∧ i < 2 ^ 63 ∧ seqIndex? i xs.length = some k ∧ xs[k]? = some y ∧ Q y (upd H l (.lst (xs.eraseIdx k)))
def rReverse : V → List V → Hp → VK → Prop := fun x vs H Q => ∃ l xs, x = .ref l ∧ vs = [] ∧ H l = some (.lst xs) ∧ Q .non (upd H l (.lst xs.reverse))
def rClear : V → List V → Hp → VK → Prop := fun x vs H Q => ∃ l xs, x = .ref l ∧ vs = [] ∧ H l = some (.lst xs) ∧ Q .non (upd H l (.lst []))
theorem mt_clear : MtM X "list.clear" rClear := by
  intro pins s σ H x vs v us Q I rx rv h
  obtain ⟨l, xs, rfl, rfl, hH, q⟩ := h
  cases rx
  have hus := rv.zero
  subst hus
  obtain ⟨z, its, n, r, hl, e⟩ := I.lstM hH
  refine call_meets F.slot_list_clear ⟨_, e, rfl⟩ F.entry_list_clear (F.args_list_clear_1 _) (AutoSeq1.list_clear_list_0 l its.toArray n (by rw [List.size_toArray]; omega)) ⟨e, ?_⟩
  exact ⟨.non, _, I.lset (its' := []) (ys := []) hH e rfl .nil (Nat.zero_le _), rfl, q⟩

/-! ### list + list, list += list, list * int -/
def rCat : R2 := fun x y H Q => ∃ l b xs zs, x = .ref l ∧ y = .ref b ∧ H l = some (.lst xs) ∧ H b = some (.lst zs) ∧ xs.length + zs.length ≤ sizeLine ∧ ∀ p, H p = none → Q (.ref p) (upd H p (.lst (xs ++ zs)))
theorem op_cat : OpR X (binaryOp .Add) rCat := by
  intro pins s σ H x y v u Q I rx ry h
  obtain ⟨l, b, xs, zs, rfl, rfl, hH, hB, hz, q⟩ := h
  cases rx
  cases ry
  obtain ⟨z, its, n, r, hl, e⟩ := I.lstM hH
  obtain ⟨z2, its2, n2, r2, hl2, e2⟩ := I.lstM hB
  refine PySem.P.add_list e e2 ?_ (by rw [List.size_toArray, List.size_toArray]; omega)
  have ea : its.toArray ++ its2.toArray = (its ++ its2).toArray := by simp
  rw [ea]
  exact ⟨.ref _, _, I.lnew (t' := s.toks) (r.append r2) (by rw [List.length_append]; omega), rfl, q _ I.fresh⟩
/-- a list times an int (a negative one is nothing) -/
def rRep : R2 := fun x y H Q => ∃ l k xs, x = .ref l ∧ y = .int k ∧ H l = some (.lst xs) ∧ -(2 ^ 63) ≤ k ∧ k < 2 ^ 63 ∧ xs.length * k.toNat ≤ sizeLine ∧
  ∀ p, H p = none → Q (.ref p) (upd H p (.lst (List.replicate k.toNat xs).flatten))
/-! ### del xs[i] -/
end

/-! ### xs[a:b] = ys -/
section
variable {prog : Program} {w : World} {A : Around} {E : Value → Shared → Prop} {s : Shared}
theorem bounds_run {a c n : Nat} (hac : a ≤ c) (hc : c ≤ n) : sliceBounds (some (a : Int)) (some (c : Int)) none n = ((a : Int), (c : Int), 1) := by
  simp only [sliceBounds, Option.getD_none]
  have h1 : ¬ ((a : Int) < 0) := by omega
  have h2 : ¬ ((c : Int) < 0) := by omega
  simp only [h1, h2, if_false, show (1 : Int) > 0 by decide, if_true]
  congr 1
  · omega
  · congr 1; omega
set_option maxRecDepth 100000 in
/-- list.__setitem__ with a slice of step one and another list -/
theorem setItem_slice {l b sl : Addr} {items new : Array Value} {n n2 : Nat} {vl vu : Value} {a c : Nat} {Q : Unit → Shared → Prop}
    (e : s.heap.get? l = some { cls := .type "list", data := .seq items n }) (e2 : s.heap.get? b = some { cls := .type "list", data := .seq new n2 }) (hne : l ≠ b)
    (hs : s.heap.IsSliceOf sl vl vu .none) (pl : IsPart vl (some (a : Int))) (pu : IsPart vu (some (c : Int))) (hac : a ≤ c) (hc : c ≤ items.size)
    (hsz : items.size + new.size ≤ sizeLine) (h : Q () { s with heap := s.heap.update l (Obj.mapSeq fun xs => xs.extract 0 a ++ new ++ xs.extract c xs.size) }) :
    wpAny (model prog w) A (setItem (.ref l) (.ref sl) (.ref b)) Q E s := by
  have hl : s.heap.IsList l items := PySem.IsL.isList e
  have hb : s.heap.IsList b new := PySem.IsL.isList e2
  obtain ⟨os, hos, hcs, hds⟩ := id hs
  have hTs : s.TypeIs (.ref sl) "slice" := ⟨os, hos, hcs⟩
  have hstep : ¬ ((rawPart none == rawInt 0) = true) := Bool.false_ne_true
  have hsame : Builtin.List.listSameRef (.ref l) (.ref b) = false := by
    unfold Builtin.List.listSameRef
    exact beq_eq_false_iff_ne.mpr hne
  have hmax : (max (a : Int) (c : Int)).toNat = c := by omega
  have hz' : ((fun xs : Array Value => xs.extract 0 a ++ new ++ xs.extract c xs.size) items).size ≤ sizeLine + 1 := by
    simp only [Array.size_append, Array.size_extract]
    omega
  unfold setItem
  try with_reducible refine wpAny_holding ?_
  first | refine wpAny_bind (wpAny_pure ?_) | skip
  refine wpAny_bind (wpAny_sequenceKey hl.typeIs (by decide) ?_)
  refine wpAny_bind (wpAny_callSpecial?_slot (name := Str.ofString "__setitem__") hl.typeIs slot_list_setitem
    (wpAny_call_entry slot_list_setitem hl.typeIs entry_list_setitem ?_ (args_list_setitem _ _ _)))
  show wpAny _ _ (Builtin.List.listSubscript? (.ref sl) >>= _) _ _ s
  refine wpAny_bind ?_
  unfold Builtin.List.listSubscript?
  refine wpAny_bind (wpAny_specialOf hTs slice_no_index ?_)
  simp only [Option.isNone_none, if_true]
  refine wpAny_pure ?_
  show wpAny _ _ (typeOf (.ref sl) >>= _) _ _ s
  refine wpAny_bind (wpAny_typeOf hTs ?_)
  first
    | rw [if_neg (by decide)]
    | refine PySem.W.KFB.if_not (by decide) ?_
  rw [listSliceParts_eq]
  refine wpAny_bind (wpAny_bind (wpAny_field hos hds (x := .none) rfl (wpAny_bind (wpAny_listPart .none ?_))))
  rw [if_neg hstep]
  refine wpAny_bind (wpAny_field hos hds (x := vl) rfl (wpAny_bind (wpAny_listPart pl ?_)))
  refine wpAny_bind (wpAny_field hos hds (x := vu) rfl (wpAny_bind (wpAny_listPart pu (wpAny_pure ?_))))
  first
    | simp only [hsame, Bool.false_eq_true, if_false]
    | refine PySem.W.KFB.if_not hsame ?_
    | (dsimp only
       rw [if_neg (by rw [hsame]; exact Bool.false_ne_true)])
  refine wpAny_bind (m := Builtin.List.listAllItems (.ref b) "must assign iterable to extended slice") ?_
  unfold Builtin.List.listAllItems
  refine wpAny_bind (wpAny_typeOf hb.typeIs ?_)
  first
    | refine PySem.W.KFB.if_so (by decide) ?_
    | rw [if_pos (by decide)]
    | simp only [beq_self_eq_true, Bool.true_or, if_true]
  unfold Builtin.List.listItems
  refine wpAny_bind (wpAny_seqItems e2 rfl (wpAny_pure ?_))
  refine wpAny_bind (wpAny_bind (wpAny_seqItems e rfl (wpAny_pure ?_)))
  refine wpAny_bind (wpAny_of_eq ((sliceIndices_raw (some (a : Int)) (some (c : Int)) none items.size (by simp)).trans (congrArg (pure : Int × Int × Int → Sem (Int × Int × Int)) (bounds_run hac hc))) ?_)
  show wpAny _ _ (if ((1 : Int) == 1) = true then _ else _) _ _ s
  rw [if_pos (by decide)]
  refine wpAny_bind (wpAny_rule ?_)
  first
    | simp only [notLongL hsz, Bool.false_eq_true, if_false]
    | refine PySem.W.KFB.if_not (notLongL hsz) ?_
  first | refine wpAny_bind (wpAny_pure ?_) | skip
  show wpAny _ _ (updateSeq l (fun xs => xs.extract 0 ((a : Int)).toNat ++ new ++ xs.extract (max (a : Int) (c : Int)).toNat xs.size) >>= _) _ _ s
  rw [hmax, Int.toNat_natCast]
  refine wpAny_bind (wpAny_updateSeq (hz := Nat.le_trans (Nat.le_add_right _ _) hsz) (_hz' := hz') e rfl ?_)
  refine wpAny_bind (wpAny_letGo ?_)
  first
    | exact wpAny_bind (wpAny_pure (wpAny_pure ⟨.none, rfl, wpAny_pure h⟩))
    | exact wpAny_pure ⟨.none, rfl, wpAny_pure h⟩
end

section
variable {X : Cx}
end
end L2

namespace Att
open PySem PySem.W PySem.Calls PyProof.Rows

/-! ### the script -/
theorem ints_of_wellAll {P : Params} {h : Heap} : ∀ (ns : List Int) (vs : List Value), WellAll P h vs (ns.map WData.int) → IntsAre vs ns := by
  intro ns
  induction ns with
  | nil =>
    intro vs w
    rw [List.map_nil] at w
    cases w
    exact .nil
  | cons n ns ih =>
    intro vs w
    rw [List.map_cons] at w
    cases w with
    | cons a b =>
      cases a
      exact .cons _ _ (ih _ b)

theorem script_of {l : OpenLaw} {n : Nat} (hn : l.most = some n) {P : Params} {h : Heap} {args : List WData} {vals : List Value}
    (hpre : l.row.toRowW.claim.pre args = true) (hwl : WellAll P h vals args) :
    ∃ a vs ns, vals = [Value.ref a] ∧ args = [WData.list (ns.map WData.int)] ∧ h.get? a = some { cls := .type "list", data := .seq vs.toArray } ∧ IntsAre vs ns ∧ ns.length ≤ n := by
  have hsh : WShape.hasAll [] args [.list .int] = true := (pre_splitW hpre).1
  have hc : l.pre.holds [] { args := args } = true := (pre_splitW hpre).2
  obtain ⟨d, r, rfl, h1, h2⟩ := hasAllW_cons hsh
  obtain rfl := hasAllW_nil h2
  obtain ⟨xs, rfl, h3⟩ := hasW_list h1
  obtain ⟨ns, rfl⟩ := items_int h3
  have hlen : ns.length ≤ n := by
    unfold OpenLaw.pre at hc
    have h4 : (WTm.not (.lt (.lit (.int (n : Int))) (.len (.arg 0)))).holds [] { args := [.list (ns.map .int)] } = true := by
      have h4 := (holds_andW hc).1
      rw [hn] at h4
      exact h4
    have h5 := condW_of h4 (w_not (w_lt w_lit (w_len_list (w_arg rfl))))
    rw [List.length_map] at h5
    refine Nat.le_of_not_lt fun q => ?_
    have q' : (n : Int) < ((ns.length : Nat) : Int) := by omega
    first
      | (rw [decide_eq_true q'] at h5; exact absurd h5 (by decide))
      | (simp at h5; omega)
  cases hwl with
  | cons w1 w2 =>
    cases w2
    cases w1 with
    | list ho hall => exact ⟨_, _, ns, rfl, rfl, ho, ints_of_wellAll ns _ hall, hlen⟩

theorem post_true (l : OpenLaw) (args : List WData) : l.row.toRowW.claim.post args (.bool true) args = true :=
  postW_of (r := l.row.toRowW) (X := (true == true))
    (show WShape.has [] (.bool true) .bool = true by first | rfl | decide | simp [WShape.has, WShape.arms, WShape.armsAll])
    (show (WTm.eq .res (.lit (.bool true))).value [] { args := args, res := some (.bool true), after := args } = some (.bool (true == true)) from w_eq_bool (w_res rfl) w_lit) rfl

/-! ### the attachment: holds_open's last premise (the goal 'hc' behind k_head) from a wpAny of the law's body -/
/-- the same from a codeAny of the CALL (for a layer whose function contracts speak of calls) -/
theorem attach_call {l : OpenLaw} {n : Nat} {q : Program} {loose : List Str} {XP : (Str → Option Value) → Heap → Prop} {YP : World → Heap → Prop} {d : DefRec}
    (hn : l.most = some n) (hdf : d.params.defaults = [])
    (call : ∀ (w : World) (s₀ s₁ : Shared) (mg mb : Str → Option Value) (fa : Addr) (o : Obj) (pm cd doc : Value) (a : Addr) (vs : List Value) (ns : List Int),
      Ground q loose [] XP w s₀ mg mb s₁.heap → YP w s₁.heap →
      s₁.heap.get? fa = some o → o.data = .func (docDef d.name d.params d.body d.scope pm cd doc) → s₁.heap.CodeRec cd d.name → mg d.name = some (.ref fa) →
      s₁.heap.get? a = some { cls := .type "list", data := .seq vs.toArray } → IntsAre vs ns → ns.length ≤ n → s₁.gens = #[] →
      codeAny (model l.prog w) callerA (.call (.ref fa) ⟨[.ref a], []⟩) (fun r s' => r = .ok (.ret (.bool true)) ∧ OldK s₁.heap s'.heap ∧ s'.os = s₁.os ∧ AllBare s'.gens) s₁) :
    WalkO q loose XP YP l.row.toRowW d [] (fun f vs => PySem.call f vs) := by
  intro w s₀ s₁ mg mb G Y fa o pm cd doc dV kV ho hd hcd hD hmg hg args vals as hpre hlay hrd hwl hlo
  obtain rfl : dV = .none := Dflts.none hD hdf
  obtain rfl : kV = .none := Dflts.noKw hD
  obtain ⟨a, vs, ns, rfl, rfl, hobj, hints, hlen⟩ := script_of hn hpre hwl
  refine enter_call (codeAny_mono (call w s₀ s₁ mg mb fa o pm cd doc a vs ns G Y ho (fd_plain hd) hcd hmg hobj hints hlen hg) fun r s' hq => ?_)
  obtain ⟨rfl, h2, h3, h4⟩ := hq
  exact ⟨.inl ⟨.bool true, .bool true, [], rfl, fun _ => rfl, .bool true, post_true l _, fun _ => ⟨List.Pairwise.nil, fun _ hm => (nomatch hm)⟩⟩, h2, h3, h4⟩

/-! ### rules over ANY heap (no ledger) from facts about the written part K: the library's own take a ledger (News) for what they write -/
section
variable {prog : Program} {w : World} {A : Around} {E : Value → Shared → Prop} {s : Shared} {K : Frag}

/-! the whole heap as the ledger: makes every rule that writes through a ledger a rule over any heap -/
def noObjs (h : Heap) : Heap := { h with objs := #[] }
def ledger (h : Heap) (L d : Addr) : List (Addr × Obj) := (List.range h.objs.size).filterMap fun a => if a = L ∨ a = d then none else (h.get? a).map fun o => (a, o)
end
end Att

namespace L2
open PySem PySem.Spec PyProof.Rows

theorem vals_ints : ∀ {vs : List Value} {ns : List Int}, IntsAre vs ns → Vals (ns.map V.int) vs
  | _, _, .nil => .nil
  | _, _, .cons n t h => .cons ⟨t, rfl⟩ (vals_ints h)

/-- nothing is tracked but the script, known to the object (or it is an object of the module) -/
def Only (H : Hp) : Prop := ∀ b, H b = none ∨ ∃ o xs, H b = some (.frz o (.lst xs))

end L2

namespace L2
open PySem PySem.Spec PyProof.Rows

abbrev KOf {K : PySem.W.Frag} {h : Heap} (_ : K.In h) : PySem.W.Frag := K

end L2

/- THE LAST THEOREM (shape; LID, My.* are yours):
   My.Adr: a structure of the addresses that your layer names (classes, functions); My.Txt K t: a structure (Prop) of the equations over K;
   My.txt_mk : {K} {implicit addresses ..} (e1 : nsIn K mainGlobals "law" = some (some (.ref f))) (e2 : K.lookup f = some ⟨oc, od, .func (fnOf "law" "law" params body scope dV kV doc pm an cdv ct), sl⟩) (e3 : codeIn K cdv "law" = true) .. : ∃ t, My.Txt K t

set_option maxRecDepth 100000 in
set_option maxHeartbeats 0 in
theorem PySem.Challenge.cw_LID_holds : PySem.Challenge.rw_LID.Holds := by
  w_on; o_law; k_head; (case hw => w_witness2)
  k_fill
  refine L2.walk_of (l := PySem.Challenge.rw_LID) (n := 63) (k := 40) (x := "script") (CX := fun w => ..) (sp := fun _ => My.sp_law) rfl (by decide) rfl ⟨rfl, by decide, by decide⟩ (fun w h Y => PySem.W.kIn_of Y) ?F ?S ?C
  case F =>
    intro w mg fa h KX G hmg
    have T : ∃ t, My.Txt (L2.KOf KX) t := by
      dsimp only [L2.KOf]                          -- K must stand as «<heap const> w.params» for k_is
      refine' My.txt_mk ?e1 ?e2 ?e3 ..
      (case e1 => PySem.W.k_is)                    -- in the order: a name -> its address -> its object -> its parts
      (case e2 => PySem.W.k_is)
      ..
    obtain ⟨t, T⟩ := T
    have e0 := hmg.symm.trans (PySem.W.mg_of KX G T.law)
    cases e0                                       -- fa is the law's own address
    exact ⟨_, fun s u => .of_eq rfl, fun base kb nb => My.law_fn T kb nb⟩     -- if «.of_eq rfl» comes too early: refine' ⟨_, ?b, fun base kb nb => My.law_fn T kb nb⟩; exact fun s u => .of_eq rfl
  case S => exact fun w H a ns hl hO hS => ..
  case C => exact ..
(the tactic k_is has no namespace: write k_is) -/

/-! SHORT WORDS over the layer: a def of the text, its body, what a loop and a test want. -/
namespace L2
open PySem PySem.Spec PyProof.Rows

/-! ### the text by places -/
/-- the j-th statement of a class's body -/
def inClass (s : Stmt) (j : Nat) : Stmt := match s with
  | .ClassDef _ _ _ body _ _ _ _ _ _ _ => body.getD j (.Pass ⟨0, 0, 0, 0⟩)
  | _ => .Pass ⟨0, 0, 0, 0⟩
def defArgs (s : Stmt) : Arguments := match s with
  | .FunctionDef _ a _ _ _ _ _ _ _ _ => a
  | _ => { posonlyargs := [], args := [], vararg := none, kwonlyargs := [], kw_defaults := [], kwarg := none, defaults := [] }
def defBody (s : Stmt) : List Stmt := match s with
  | .FunctionDef _ _ b _ _ _ _ _ _ _ => b
  | _ => []
def defScope (s : Stmt) : Scope := match s with
  | .FunctionDef _ _ _ _ _ _ sc _ _ _ => sc
  | _ => { kind := .function, names := [], isGenerator := false, isCoroutine := false }

/-! ### no exception leaves a def -/
abbrev CX0 : CXT := fun _ _ _ _ _ _ => False
abbrev E0 : XK := fun _ _ _ => False
theorem pass0 {X : Cx} : Passes CX0 X E0 := fun _ _ _ _ _ _ _ h => h.elim

/-! ### a def (or method) of the text as it stands behind the top -/
structure Fun (K : PySem.W.Frag) (x qual : Str) (st : Stmt) (f : Addr) (fd : FuncData) : Prop where
  ex : ∃ (oc : Value) (od : Option Addr) (kV doc pm : Value) (an : Option Addr) (cdv ct : Value) (osl : Array (Option Value)),
    fd = PySem.W.fnOf x qual (defArgs st) (defBody st) (defScope st) .none kV doc pm an cdv ct ∧ K.lookup f = some ⟨oc, od, .func fd, osl⟩ ∧ PySem.W.codeIn K cdv qual = true
  kp : PySem.W.keepIn K (.ref f) = true
section
variable {P : Program} {w : World} {K : PySem.W.Frag} {mg : Str → Option Value} {base : Heap}
/-- THE RULE for a def: its body as a term of rules, and the reading of that term -/
theorem Fun.ok {x qual : Str} {st : Stmt} {f : Addr} {fd : FuncData} {N ps : List Str} {k : Nat} {sp : Sp} (F : Fun K x qual st f fd) (S : FnScope N ps (defScope st)) (len : ∀ vs H Q E, sp vs H Q E → vs.length = ps.length)
    (hbody : ∀ (cdv : Value) (A : Around) (outer : List Env) (s : Shared) (H : Hp) (vs : List V) (Q : VK) (E : XK), Room k (A.deeper (envOfC qual (defScope st) s.heap.objs.size f cdv)) → sp vs H Q E →
      ∃ t, PSs (cxOf CX0 P w K mg base N qual (defScope st) f cdv A outer s H E).nox (defBody st) t ∧ t { nx := fun _ H' => Q .non H', rt := Q } (start N vs) H) : FnOk P w K mg base CX0 (k + 1) f fd ps sp := by
  obtain ⟨oc, od, kV, doc, pm, an, cdv, ct, osl, rfl, lk, hcd⟩ := F.ex
  refine fn_of lk hcd S len fun A outer s H vs Q E hr hsp => ?_
  obtain ⟨t, h, q⟩ := hbody cdv A outer s H vs Q E hr hsp
  exact ⟨t, h.nox, q⟩
/-- how its arguments bind (no defaults): h is «fun _ _ _ _ _ _ us hl => match us, hl with | [_, _], _ => rfl», one _ a parameter -/
theorem Fun.binds {x qual : Str} {st : Stmt} {f : Addr} {fd : FuncData} {ps : List Str} (F : Fun K x qual st f fd)
    (h : ∀ (kV doc pm : Value) (an : Option Addr) (cdv ct : Value) (us : List Value), us.length = ps.length → bindArgs (PySem.W.fnOf x qual (defArgs st) (defBody st) (defScope st) .none kV doc pm an cdv ct) ⟨us, []⟩ = pure (ps.zip us)) : Binds K fd ps [] := by
  obtain ⟨oc, od, kV, doc, pm, an, cdv, ct, osl, rfl, lk, hcd⟩ := F.ex
  exact .all (h kV doc pm an cdv ct)
theorem fun_mk {x qual : Str} {st : Stmt} {f : Addr} {oc : Value} {od an : Option Addr} {osl : Array (Option Value)} {kV doc pm cdv ct : Value} (l : K.lookup f = some ⟨oc, od, .func (PySem.W.fnOf x qual (defArgs st) (defBody st) (defScope st) .none kV doc pm an cdv ct), osl⟩)
    (c : PySem.W.codeIn K cdv qual = true) (k : PySem.W.keepIn K (.ref f) = true) : Fun K x qual st f (PySem.W.fnOf x qual (defArgs st) (defBody st) (defScope st) .none kV doc pm an cdv ct) := ⟨⟨oc, od, kV, doc, pm, an, cdv, ct, osl, rfl, l, c⟩, k⟩
end
theorem small1000 {n : Nat} (h : n ≤ 1000) : n < sizeLine := Nat.lt_of_le_of_lt h (by decide)

/-! ### expressions in short: the name that stands in the i-th slot -/
section
variable {X : Cx}
theorem pv (i : Nat) {x : Str} {pos : Pos} (hN : X.N[i]? = some x := by rfl) (hv : Vis X.env.scope x := by first | exact Or.inl rfl | exact Or.inr (Or.inl rfl) | exact Or.inr (Or.inr rfl)) (hd : (x == ("__debug__" : Str)) = false := by decide)
    (hcd : (x == ("__classdict__" : Str)) = false := by decide) : PE X (.Name x pos) (tVar i) := pe_var hN hv hd hcd
end

/-! ### tests -/
theorem iteF {A B : Prop} (h : B) : if false = true then A else B := by
  rw [if_neg Bool.false_ne_true]
  exact h
theorem iteT {A B : Prop} (h : A) : if true = true then A else B := by
  rw [if_pos rfl]
  exact h
/-! ### heaps -/
/-- all that was tracked is as it was -/
def Same (H H' : Hp) : Prop := ∀ b o, H b = some o → H' b = some o
theorem Same.refl (H : Hp) : Same H H := fun _ _ h => h
theorem Same.trans {H H1 H2 : Hp} (a : Same H H1) (b : Same H1 H2) : Same H H2 := fun c o h => b c o (a c o h)
theorem Same.seq {K : PySem.W.Frag} {H H' : Hp} {a : Addr} {xs : List V} (e : Same H H') (h : SqL K H a xs) : SqL K H' a xs := by
  rcases h with (h | ⟨o, h⟩) | h
  · exact .inl (.inl (e _ _ h))
  · exact .inl (.inr ⟨o, e _ _ h⟩)
  · exact .inr h

end L2

set_option Elab.async false
set_option linter.all false
set_option maxRecDepth 100000
namespace L2
open PySem PySem.Spec PyProof.Rows
/-! Own words over the layer, part A: calls by name, constants of the module, wide division, == of data. -/
/-- a def of the text that is called by its name -/
structure Cal (P : Program) (w : World) (K : PySem.W.Frag) (mg : Str → Option Value) (base : Heap) (CX : CXT) (k : Nat) (x : Str) (ps : List Str) (sp : Sp) : Prop where
  ex : ∃ f fd, FnOk P w K mg base CX k f fd ps sp ∧ Binds K fd ps [] ∧ PySem.W.keepIn K (.ref f) = true ∧ mg x = some (.ref f)
/-- a constant of the module -/
def GC (mg : Str → Option Value) (x : Str) (v : V) : Prop := ∃ u, mg x = some u ∧ RelV v u
section
variable {X : Cx} {CX : CXT} {j k : Nat} {ps : List Str} {sp : Sp} {E : XK} {x : Str} {v : V} {p pos : Pos} {e : Expr} {es : List Expr} {t : TA}
theorem pe_fn (c : Cal X.prog X.w X.K X.mg X.base CX k x ps sp) (hr : Room j X.A) (hx : Passes CX X E) (ha : PA X (e :: es) t) (hk : k ≤ j := by decide) (hg : Gl X x := by rfl) (hdb : (x == ("__debug__" : Str)) = false := by decide)
    (he : starEach (e :: es) X.env = (false, eval e X.env) :: starEach es X.env := by rfl) (hpl : (backTo pos (starEach es X.env)).any (·.1) = false := by rfl) :
    PE X (.Call (.Name x p) (e :: es) [] pos) (tCall sp [] E t) := by
  obtain ⟨f, fd, F, b, kp, m⟩ := c.ex
  exact pe_call F (hr.mono hk) hg m kp b .nil hx ha hdb he hpl
theorem pe_gc (h : GC X.mg x v) (hg : Gl X x := by rfl) (hd : (x == ("__debug__" : Str)) = false := by decide) : PE X (.Name x pos) (tC v) := by
  obtain ⟨u, m, r⟩ := h
  exact pe_glob hg m r hd
def CDivW (i j : Int) : Prop := 0 < j ∧ j < 2 ^ 200
theorem op_fdivW : OpR X (binaryOp .FloorDiv) (rI CDivW fun i j => .int (i / j)) := opI fun i j _ _ _ _ _ hc q => by
  have h1 : (0 : Int) < j := hc.1
  have h2 : j < 2 ^ 200 := hc.2
  have h3 : j.natAbs < 2 ^ 200 := by omega
  have h4 : j.natAbs.log2 < 200 := (Nat.log2_lt (by omega)).mpr h3
  exact floordiv_int (by omega) (by rw [Int.fdiv_eq_ediv_of_nonneg i (by omega)]; exact q) (.inl (PyProof.noPylong_of_log2 (by omega)))
end

/-! ### data: deep values -/
mutual
inductive DV (K : PySem.W.Frag) (H : Hp) : V → PyData → Prop
  | non : DV K H .non .none
  | bl (b : Bool) : DV K H (.bl b) (.bool b)
  | int (i : Int) : DV K H (.int i) (.int i)
  | str (x : Str) : DV K H (.str x) (.str x)
  | tup {a xs ds} : SqT K H a xs → DVs K H xs ds → DV K H (.ref a) (.tuple ds)
  | lst {a xs ds} : SqL K H a xs → DVs K H xs ds → DV K H (.ref a) (.list ds)
inductive DVs (K : PySem.W.Frag) (H : Hp) : List V → List PyData → Prop
  | nil : DVs K H [] []
  | cons {x xs d ds} : DV K H x d → DVs K H xs ds → DVs K H (x :: xs) (d :: ds)
end
section
variable {X : Cx} {pins : List (Addr × Obj)} {σ : St} {H : Hp} {s : Shared}
mutual
theorem DV.reads (I : Inv X pins σ H s) : ∀ {x : V} {d : PyData} {u : Value}, DV X.K H x d → RelV x u → ∃ as, Reads s.heap u d as
  | _, _, _, .non, r => by cases r; exact ⟨_, Reads.none⟩
  | _, _, _, .bl b, r => by cases r; exact ⟨_, Reads.bool b⟩
  | _, _, _, .int i, r => by obtain ⟨t, rfl⟩ := r; exact ⟨_, Reads.int i t⟩
  | _, _, _, .str x, r => by obtain ⟨t, rfl⟩ := r; exact ⟨_, Reads.str x t⟩
  | _, _, _, .tup h hs, r => by
    cases r
    obtain ⟨its, rs, ⟨o, ho, hc, n, hd⟩, _⟩ := I.tuple h
    obtain ⟨as, q⟩ := DVs.reads I hs rs
    exact ⟨_, reads_tuple_at ho hc hd (by simpa using q)⟩
  | _, _, _, .lst h hs, r => by
    cases r
    obtain ⟨its, rs, ⟨o, n, ho, hc, _, hd⟩, _⟩ := I.list h
    obtain ⟨as, q⟩ := DVs.reads I hs rs
    exact ⟨_, reads_list_at ho hc hd (by simpa using q)⟩
theorem DVs.reads (I : Inv X pins σ H s) : ∀ {xs : List V} {ds : List PyData} {us : List Value}, DVs X.K H xs ds → Vals xs us → ∃ as, ReadsAll s.heap us ds as
  | _, _, _, .nil, .nil => ⟨_, ReadsAll.nil⟩
  | _, _, _, .cons h hs, .cons r rs => by
    obtain ⟨as, q⟩ := DV.reads I h r
    obtain ⟨bs, p⟩ := DVs.reads I hs rs
    exact ⟨_, ReadsAll.cons q p⟩
end
def rEqD (K : PySem.W.Frag) : R2 := fun x y H Q => ∃ d e, DV K H x d ∧ DV K H y e ∧ SeqAt.shaped d = true ∧ SeqAt.shaped e = true ∧ Q (.bl (PyData.eqv d e)) H
def rNeD (K : PySem.W.Frag) : R2 := fun x y H Q => ∃ d e, DV K H x d ∧ DV K H y e ∧ SeqAt.shaped d = true ∧ SeqAt.shaped e = true ∧ Q (.bl (!PyData.eqv d e)) H
theorem op_eqD (hu : X.A.units + 64 < cLine) : OpR X (compareOp .Eq) (rEqD X.K) := by
  intro pins s σ H x y v u Q I rx ry h
  obtain ⟨d, e, hd, he, sd, se, q⟩ := h
  obtain ⟨as, ra⟩ := hd.reads I rx
  obtain ⟨bs, rb⟩ := he.reads I ry
  exact eq_dataH ra rb sd se hu ⟨.bl _, H, I, rfl, q⟩
theorem op_neD (hu : X.A.units + 64 < cLine) : OpR X (compareOp .NotEq) (rNeD X.K) := by
  intro pins s σ H x y v u Q I rx ry h
  obtain ⟨d, e, hd, he, sd, se, q⟩ := h
  obtain ⟨as, ra⟩ := hd.reads I rx
  obtain ⟨bs, rb⟩ := he.reads I ry
  exact ne_dataH ra rb sd se hu ⟨.bl _, H, I, rfl, q⟩
end
theorem Same.tup {K : PySem.W.Frag} {H H' : Hp} {a : Addr} {xs : List V} (e : Same H H') (h : SqT K H a xs) : SqT K H' a xs := by
  rcases h with (h | ⟨o, h⟩) | h
  · exact .inl (.inl (e _ _ h))
  · exact .inl (.inr ⟨o, e _ _ h⟩)
  · exact .inr h
theorem same_new {H : Hp} {p : Addr} (h : H p = none) (o : HO) : Same H (upd H p o) := fun b u q => by rw [upd_ne (ne_of_none q h)]; exact q
end L2

set_option Elab.async false
set_option linter.all false
set_option maxRecDepth 100000
namespace L2
open PySem PySem.Spec PyProof.Rows
theorem boot_bool : bootBuiltins "bool" = some (.type "bool") := by decide +kernel
theorem boot_int : bootBuiltins "int" = some (.type "int") := by decide +kernel
theorem boot_list : bootBuiltins "list" = some (.type "list") := by decide +kernel
theorem boot_tuple : bootBuiltins "tuple" = some (.type "tuple") := by decide +kernel
section
variable {X : Cx}
/-- isinstance of a class that is known -/
def rIsi (K : PySem.W.Frag) (c : V) (cv : Value) : List V → Hp → VK → Prop := fun xs H Q => ∃ x t b, xs = [x, c] ∧ TyOf K H x t ∧ PySem.W.kitOne K t cv = some b ∧ Q (.bl b) H
theorem call_isi {c : V} {cv : Value} (hc : ∀ u, RelV c u → u = cv) : CallR X (.builtin "isinstance") (rIsi X.K c cv) := by
  intro pins s σ H xs us Q I r h
  obtain ⟨x, t, b, rfl, ty, e, q⟩ := h
  obtain ⟨u, w, rfl, ru, rw'⟩ := Vals.two r
  cases hc w rw'
  exact isinst_ok I ru ty e fun tk => ⟨.bl b, H, I.tok tk, rfl, q⟩
theorem pe_isB {x : Str} {T : String} {p p2 pos : Pos} {e : Expr} {te : TE} (hg : Gl X "isinstance") (hm : X.mg "isinstance" = none) (he : PE X e te) (hmT : X.mg x = none) (hT : bootBuiltins x = some (.type T)) (hgT : Gl X x := by rfl) (hn : x ≠ "__name__" := by decide) (hd : (x == ("__debug__" : Str)) = false := by decide)
    (h1 : starEach [e, .Name x p2] X.env = (false, eval e X.env) :: starEach [.Name x p2] X.env := by rfl) (h2 : (backTo pos (starEach [.Name x p2] X.env)).any (·.1) = false := by rfl) :
    PE X (.Call (.Name "isinstance" p) [e, .Name x p2] [] pos) (tCB (rIsi X.K (.ty T) (.type T)) (tCons te (tCons (tC (.ty T)) tNil))) :=
  pe_callB (call_isi fun u hu => hu) hg hm boot_isinstance (pa_cons he (pa_cons (pe_bltn hgT hmT hT rfl hn hd) pa_nil) h1) (by decide) (by decide) h1 h2
end
end L2

/-! Own mathematics: bits of numbers. -/
namespace Tw
theorem pop_dec {n : Nat} (h : ¬ n = 0) : n / 2 < n := Nat.div_lt_self (Nat.pos_of_ne_zero h) (by decide)
def pop (n : Nat) : Nat := if h : n = 0 then 0 else n % 2 + pop (n / 2)
termination_by n
decreasing_by exact pop_dec h
theorem pop_zero : pop 0 = 0 := by rw [pop]; rfl
theorem pop_step (n : Nat) : pop n = n % 2 + pop (n / 2) := by
  by_cases h : n = 0
  · subst h; rw [pop_zero]
  · rw [pop, dif_neg h]
theorem and_mod2 (a b : Nat) : (a &&& b) % 2 = (a % 2) * (b % 2) := by
  have h := Nat.and_two_pow_sub_one_eq_mod
  have ha : a % 2 = a &&& 1 := (Nat.and_one_is_mod a).symm
  rw [← Nat.and_one_is_mod, ← Nat.and_one_is_mod, ← Nat.and_one_is_mod]
  have e : (a &&& b) &&& 1 = (a &&& 1) &&& (b &&& 1) := by
    apply Nat.eq_of_testBit_eq
    intro i
    simp only [Nat.testBit_and]
    cases a.testBit i <;> cases b.testBit i <;> cases (1 : Nat).testBit i <;> rfl
  rw [e, Nat.and_one_is_mod a, Nat.and_one_is_mod b]
  rcases Nat.mod_two_eq_zero_or_one a with h | h <;> rcases Nat.mod_two_eq_zero_or_one b with h' | h' <;> rw [h, h'] <;> rfl
theorem and_div2 (a b : Nat) : (a &&& b) / 2 = (a / 2) &&& (b / 2) := by
  apply Nat.eq_of_testBit_eq
  intro i
  rw [Nat.testBit_and, Nat.testBit_div_two, Nat.testBit_div_two, Nat.testBit_div_two, Nat.testBit_and]
theorem pop_pred : ∀ n : Nat, 0 < n → pop (n &&& (n - 1)) + 1 = pop n := by
  intro n
  induction n using Nat.strongRecOn with
  | ind n ih =>
    intro h
    rw [pop_step (n &&& (n - 1)), pop_step n, and_mod2, and_div2]
    rcases Nat.mod_two_eq_zero_or_one n with e | e
    · have h2 : 0 < n / 2 := by omega
      have e2 : (n - 1) / 2 = n / 2 - 1 := by omega
      have := ih (n / 2) (by omega) h2
      rw [e2, e]
      omega
    · have e2 : (n - 1) / 2 = n / 2 := by omega
      have e3 : (n - 1) % 2 = 0 := by omega
      have e4 : n / 2 &&& n / 2 = n / 2 := Nat.and_self _
      rw [e2, e3, e, e4]
      omega
theorem and_pred_lt {n : Nat} (h : 0 < n) : n &&& (n - 1) < n := by
  have := Nat.and_le_right (n := n) (m := n - 1)
  omega
/-- how many of the first k places p holds at -/
def cnt (p : Nat → Bool) : Nat → Nat
  | 0 => 0
  | k + 1 => cnt p k + (p k).toNat
theorem cnt_succ' (p : Nat → Bool) : ∀ k, cnt p (k + 1) = (p 0).toNat + cnt (fun i => p (i + 1)) k
  | 0 => by simp [cnt]
  | k + 1 => by
    have := cnt_succ' p k
    rw [cnt, this, cnt]
    omega
theorem cnt_congr {p q : Nat → Bool} : ∀ {k : Nat}, (∀ i, i < k → p i = q i) → cnt p k = cnt q k
  | 0, _ => rfl
  | k + 1, h => by rw [cnt, cnt, cnt_congr fun i hi => h i (by omega), h k (by omega)]
theorem cnt_le (p : Nat → Bool) : ∀ k, cnt p k ≤ k
  | 0 => Nat.le_refl _
  | k + 1 => by
    have := cnt_le p k
    rw [cnt]
    cases p k <;> simp <;> omega
theorem pop_cnt : ∀ (k n : Nat), n < 2 ^ k → pop n = cnt n.testBit k
  | 0, n, h => by
    have : n = 0 := by simpa using h
    subst this
    exact pop_zero
  | k + 1, n, h => by
    rw [pop_step, cnt_succ']
    have h2 : n / 2 < 2 ^ k := by rw [Nat.pow_succ] at h; omega
    rw [pop_cnt k (n / 2) h2]
    have e0 : n % 2 = (n.testBit 0).toNat := by
      rw [Nat.testBit_zero]
      rcases Nat.mod_two_eq_zero_or_one n with e | e <;> rw [e] <;> rfl
    rw [e0]
    congr 1
    exact cnt_congr fun i _ => by rw [Nat.testBit_div_two]
def bI (b : Bool) : Int := if b then 1 else 0
theorem xor_lt {a b k : Nat} (h1 : a < 2 ^ k) (h2 : b < 2 ^ k) : a ^^^ b < 2 ^ k := Nat.xor_lt_two_pow h1 h2
theorem or_div2 (a b : Nat) : (a ||| b) / 2 = (a / 2) ||| (b / 2) := by
  apply Nat.eq_of_testBit_eq
  intro i
  rw [Nat.testBit_or, Nat.testBit_div_two, Nat.testBit_div_two, Nat.testBit_div_two, Nat.testBit_or]
theorem xor_div2 (a b : Nat) : (a ^^^ b) / 2 = (a / 2) ^^^ (b / 2) := by
  apply Nat.eq_of_testBit_eq
  intro i
  rw [Nat.testBit_xor, Nat.testBit_div_two, Nat.testBit_div_two, Nat.testBit_div_two, Nat.testBit_xor]
theorem mod2_b (a : Nat) : a % 2 = (a.testBit 0).toNat := by
  rw [Nat.testBit_zero]
  rcases Nat.mod_two_eq_zero_or_one a with e | e <;> rw [e] <;> rfl
theorem or_mod2 (a b : Nat) : (a ||| b) % 2 + (a &&& b) % 2 = a % 2 + b % 2 := by
  rw [mod2_b, mod2_b (a &&& b), mod2_b a, mod2_b b, Nat.testBit_or, Nat.testBit_and]
  cases a.testBit 0 <;> cases b.testBit 0 <;> rfl
theorem xor_mod2 (a b : Nat) : (a ^^^ b) % 2 + (a &&& b) % 2 = (a ||| b) % 2 := by
  rw [mod2_b, mod2_b (a &&& b), mod2_b (a ||| b), Nat.testBit_or, Nat.testBit_and, Nat.testBit_xor]
  cases a.testBit 0 <;> cases b.testBit 0 <;> rfl
theorem or_add_and : ∀ a b : Nat, (a ||| b) + (a &&& b) = a + b := by
  intro a
  induction a using Nat.strongRecOn with
  | ind a ih =>
    intro b
    by_cases ha : a = 0
    · subst ha; simp
    · have q := ih (a / 2) (by omega) (b / 2)
      have h1 := or_div2 a b
      have h2 := and_div2 a b
      have h3 := or_mod2 a b
      rw [← h1, ← h2] at q
      omega
theorem xor_add_and : ∀ a b : Nat, (a ^^^ b) + (a &&& b) = a ||| b := by
  intro a
  induction a using Nat.strongRecOn with
  | ind a ih =>
    intro b
    by_cases ha : a = 0
    · subst ha; simp
    · have q := ih (a / 2) (by omega) (b / 2)
      have h1 := or_div2 a b
      have h2 := and_div2 a b
      have h4 := xor_div2 a b
      have h3 := xor_mod2 a b
      rw [← h1, ← h2, ← h4] at q
      omega
theorem pow2_cast (n : Nat) : ((2 : Int) ^ n) = ((2 ^ n : Nat) : Int) := by push_cast; rfl
theorem emod_nat (y : Int) {n : Nat} (h : 0 < n) : ∃ k : Nat, y % (n : Int) = (k : Int) ∧ k < n := by
  have h1 := Int.emod_nonneg y (show ((n : Int)) ≠ 0 by omega)
  have h2 := Int.emod_lt_of_pos y (show (0 : Int) < (n : Int) by omega)
  exact ⟨(y % n).toNat, by omega, by omega⟩
end Tw

set_option Elab.async false
set_option linter.all false
set_option maxRecDepth 100000
namespace L2
open PySem PySem.Spec PyProof.Rows
/-! What readings are simplified by. -/
theorem scal_ii (a b : Int) : scal (.int a) (.int b) = true := rfl
theorem bitAnd_nat (a b : Nat) : Builtin.bitAnd (a : Int) (b : Int) = ((a &&& b : Nat) : Int) := by
  rw [bitAnd_pp (by omega) (by omega)]; simp
theorem bitOr_nat (a b : Nat) : Builtin.bitOr (a : Int) (b : Int) = ((a ||| b : Nat) : Int) := by
  have h : Builtin.bitOr (a : Int) (b : Int) = a + b - ((a &&& b : Nat) : Int) := by rw [bitOr_and, bitAnd_nat]
  have e := Tw.or_add_and a b
  omega
theorem bitXor_nat (a b : Nat) : Builtin.bitXor (a : Int) (b : Int) = ((a ^^^ b : Nat) : Int) := by
  have h : Builtin.bitXor (a : Int) (b : Int) = ((a ||| b : Nat) : Int) - ((a &&& b : Nat) : Int) := by
    show Builtin.bitOr _ _ - Builtin.bitAnd _ _ = _
    rw [bitOr_nat, bitAnd_nat]
  have e := Tw.xor_add_and a b
  omega
theorem bitAnd_bit (x i : Nat) : Builtin.bitAnd ((x : Int) / 2 ^ i) 1 = Tw.bI (x.testBit i) := by
  have e : ((x : Int) / 2 ^ i) = ((x / 2 ^ i : Nat) : Int) := by push_cast; rfl
  have e1 : (1 : Int) = ((1 : Nat) : Int) := rfl
  rw [e, e1, bitAnd_nat, Nat.and_one_is_mod]
  rw [Nat.testBit_eq_decide_div_mod_eq]
  unfold Tw.bI
  rcases Nat.mod_two_eq_zero_or_one (x / 2 ^ i) with h | h <;> rw [h] <;> rfl
theorem bitAnd_pred {n : Nat} (h : 0 < n) : Builtin.bitAnd (n : Int) ((n : Int) - 1) = ((n &&& (n - 1) : Nat) : Int) := by
  have e : ((n : Int) - 1) = ((n - 1 : Nat) : Int) := by omega
  rw [e, bitAnd_nat]
theorem SqT.upd {K : PySem.W.Frag} {H : Hp} {p a : Addr} {o : HO} {xs : List V} (h : H p = none) (s : SqT K H a xs) : SqT K (upd H p o) a xs := (same_new h o).tup s
theorem SqL.upd {K : PySem.W.Frag} {H : Hp} {p a : Addr} {o : HO} {xs : List V} (h : H p = none) (s : SqL K H a xs) : SqL K (upd H p o) a xs := (same_new h o).seq s
theorem Same.updR {H H1 : Hp} {p : Addr} {o : HO} (s : Same H H1) (h : H1 p = none) : Same H (upd H1 p o) := s.trans (same_new h o)
theorem upd_get {H : Hp} {p a : Addr} {o u : HO} (h : H p = none) (s : H a = some u) : upd H p o a = some u := same_new h o a u s
section
variable {K : PySem.W.Frag} {H : Hp} {Q : VK} {a b : Addr} {i j : Int} {x y : Str} {p q : Bool}
theorem rEq_i : rEq (.int i) (.int j) H Q = Q (.bl (decide (i = j))) H := by
  unfold rEq
  rw [scal_ii]
  simp only [V.int.injEq, true_and]
theorem rNe_i : rNe (.int i) (.int j) H Q = Q (.bl (!decide (i = j))) H := by
  unfold rNe
  rw [scal_ii]
  simp only [V.int.injEq, true_and]
end
theorem cxOf_K {CX : CXT} {P : Program} {w : World} {K : PySem.W.Frag} {mg : Str → Option Value} {base : Heap} {N : List Str} {qual : Str} {scope : Scope} {f : Addr} {cd : Value} {A : Around} {outer : List Env} {s : Shared} {H : Hp} {E : XK} : (cxOf CX P w K mg base N qual scope f cd A outer s H E).K = K := rfl
theorem cpow_n {i : Int} {n : Nat} (h : n ≤ 1000) (h2 : i.natAbs < 2 ^ 64 := by decide) : CPow i (n : Int) := ⟨by omega, by omega, h2⟩
section
variable {K : PySem.W.Frag} {H : Hp} {Q : VK} {a b : Addr} {i1 i2 i3 j1 j2 j3 : Int}
end
end L2

set_option Elab.async false
set_option linter.all false
set_option maxRecDepth 100000
namespace L2
open PySem PySem.Spec PyProof.Rows
/-! One step of a reading, at its head. -/
section
variable {K : PySem.W.Frag} {H : Hp} {Q : VK} {R : Bool → Hp → Prop} {D : Ends} {σ : St} {t u : TS} {te ta tb : TE} {tt tu : TT} {tA : TA} {g : TG} {gs : TGs} {v w : V} {a b : Addr} {i j : Int} {p q : Bool} {x y : Str} {n m k : Nat}
theorem st_seq (h : t { D with nx := u D } σ H) : tSeq t u D σ H := h
theorem st_next (h : D.nx σ H) : tNext D σ H := h
theorem st_asg (h : te σ H fun x H1 => g x σ H1 D.nx) : tAsg te g D σ H := h
theorem st_ret (h : te σ H D.rt) : tRet te D σ H := h
theorem st_drop (h : te σ H fun _ H1 => D.nx σ H1) : tDrop te D σ H := h
theorem st_if (h : tt σ H fun b H1 => if b = true then t D σ H1 else u D σ H1) : tIfS tt t u D σ H := h
theorem st_gname {P : St → Hp → Prop} (h : P (σ.set n (some v)) H) : gName n v σ H P := h
theorem st_gtup {P : St → Hp → Prop} {xs : List V} (s : SqT K H a xs) (l : xs.length = n) (h : gs xs σ H P) : gTup K n gs (.ref a) σ H P := ⟨a, xs, rfl, s, l, h⟩
theorem st_gcons {P : St → Hp → Prop} {r : List V} (h : g v σ H fun σ' H' => gs r σ' H' P) : gCons g gs (v :: r) σ H P := ⟨v, r, rfl, h⟩
theorem st_gnil {P : St → Hp → Prop} (h : P σ H) : gNil [] σ H P := ⟨rfl, h⟩
theorem st_c (h : Q v H) : tC v σ H Q := h
theorem st_var (e : σ[n]? = some (some v)) (h : Q v H) : tVar n σ H Q := ⟨v, e, h⟩
theorem st_op {r : R2} (h : ta σ H fun x H1 => tb σ H1 fun y H2 => r x y H2 Q) : tOp r ta tb σ H Q := h
theorem st_un {r : V → Hp → VK → Prop} (h : ta σ H fun x H1 => r x H1 Q) : tUn r ta σ H Q := h
theorem st_test (h : te σ H fun x H' => ∃ k, x = .bl k ∧ R k H') : tTest te σ H R := h
theorem st_tB (h : te σ H fun x H' => ∃ k, x = .bl k ∧ R k H') : tB te σ H R := h
theorem st_bl {P : Bool → Prop} (h : P p) : ∃ k, V.bl p = V.bl k ∧ P k := ⟨p, rfl, h⟩
theorem st_and (h : tt σ H fun c H1 => if c = true then tu σ H1 R else R false H1) : tAnd tt tu σ H R := h
theorem st_or (h : tt σ H fun c H1 => if c = true then R true H1 else tu σ H1 R) : tOr tt tu σ H R := h
theorem st_not (h : tt σ H fun c H1 => R (!c) H1) : tNot tt σ H R := h
theorem st_andV (h : ta σ H fun x H1 => ∃ c, x = .bl c ∧ if c = true then tb σ H1 Q else Q (.bl false) H1) : tAndV ta tb σ H Q := h
theorem st_notV (h : ta σ H fun x H1 => ∃ c, x = .bl c ∧ Q (.bl (!c)) H1) : tNotV ta σ H Q := h
theorem st_ifE (h : tt σ H fun c H1 => if c = true then ta σ H1 Q else tb σ H1 Q) : tIf tt ta tb σ H Q := h
theorem st_call {sp : Sp} {dvs : List V} {E : XK} (h : tA σ H fun vs H1 => sp (vs ++ dvs) H1 Q E) : tCall sp dvs E tA σ H Q := h
theorem st_cb {r : List V → Hp → VK → Prop} (h : tA σ H fun vs H1 => r vs H1 Q) : tCB r tA σ H Q := h
theorem st_cons {P : List V → Hp → Prop} (h : te σ H fun x H1 => tA σ H1 fun xs H2 => P (x :: xs) H2) : tCons te tA σ H P := h
theorem st_nil {P : List V → Hp → Prop} (h : P [] H) : tNil σ H P := h
theorem st_tup (h : tA σ H fun xs H1 => xs.length ≤ sizeLine ∧ ∀ p, H1 p = none → Q (.ref p) (upd H1 p (.tup xs))) : tTup tA σ H Q := h
theorem st_lst (h : tA σ H fun xs H1 => xs.length ≤ sizeLine ∧ ∀ p, H1 p = none → Q (.ref p) (upd H1 p (.lst xs))) : tLst tA σ H Q := h
theorem st_size {A : Prop} {xs : List V} (h : Nat.ble xs.length 1000 = true) (q : A) : xs.length ≤ sizeLine ∧ A := ⟨Nat.le_of_lt (small1000 (Nat.le_of_ble_eq_true h)), q⟩
theorem st_part {P : Option Int → Hp → Prop} (h : te σ H fun x H1 => ∃ i, x = .int i ∧ P (some i) H1) : tPart te σ H P := h
theorem st_int {P : Int → Prop} (h : P i) : ∃ k, V.int i = V.int k ∧ P k := ⟨i, rfl, h⟩
theorem st_nopart {P : Option Int → Hp → Prop} (h : P none H) : tNoPart σ H P := h
theorem st_sl {r : V → Option Int → Option Int → Hp → VK → Prop} {tl th : TO} (h : te σ H fun x H1 => tl σ H1 fun l H2 => th σ H2 fun u H3 => r x l u H3 Q) : tSl r te tl th σ H Q := h
theorem st_slL {xs : List V} {lo hi : Option Int} (s : SqL K H a xs) (h : ∀ p, H p = none → Q (.ref p) (upd H p (.lst (cutV xs lo hi)))) : rSlL K (.ref a) lo hi H Q := ⟨a, xs, rfl, s, h⟩
theorem st_i0 {g : Int → Int → V} (h : Q (g i j) H) : rI0 g (.int i) (.int j) H Q := ⟨i, j, rfl, rfl, h⟩
theorem st_i {C : Int → Int → Prop} {g : Int → Int → V} (c : C i j) (h : Q (g i j) H) : rI C g (.int i) (.int j) H Q := ⟨i, j, rfl, rfl, c, h⟩
theorem st_u {g : Int → V} (h : Q (g i) H) : rU g (.int i) H Q := ⟨i, rfl, h⟩
theorem st_eqi (h : Q (.bl (decide (i = j))) H) : rEq (.int i) (.int j) H Q := by rw [rEq_i]; exact h
theorem st_nei (h : Q (.bl (!decide (i = j))) H) : rNe (.int i) (.int j) H Q := by rw [rNe_i]; exact h
theorem st_ixT {xs : List V} (s : SqT K H a xs) (e : atI xs i = some v) (h : Q v H) : rIxT K (.ref a) (.int i) H Q := ⟨a, xs, i, v, rfl, rfl, s, e, h⟩
theorem st_ixL {xs : List V} (s : SqL K H a xs) (e : atI xs i = some v) (h : Q v H) : rIxL K (.ref a) (.int i) H Q := ⟨a, xs, i, v, rfl, rfl, s, e, h⟩
/-- bits of naturals -/
theorem st_andN (h : Q (.int ((n &&& m : Nat) : Int)) H) : rI0 (fun i j => .int (Builtin.bitAnd i j)) (.int (n : Int)) (.int (m : Int)) H Q := st_i0 (by rw [bitAnd_nat]; exact h)
theorem st_orN (h : Q (.int ((n ||| m : Nat) : Int)) H) : rI0 (fun i j => .int (Builtin.bitOr i j)) (.int (n : Int)) (.int (m : Int)) H Q := st_i0 (by rw [bitOr_nat]; exact h)
theorem st_xorN (h : Q (.int ((n ^^^ m : Nat) : Int)) H) : rI0 (fun i j => .int (Builtin.bitXor i j)) (.int (n : Int)) (.int (m : Int)) H Q := st_i0 (by rw [bitXor_nat]; exact h)
theorem st_bit (h : Q (.int (Tw.bI (n.testBit k))) H) : rI0 (fun i j => .int (Builtin.bitAnd i j)) (.int ((n : Int) / 2 ^ k)) (.int 1) H Q := st_i0 (by rw [bitAnd_bit]; exact h)
theorem st_shrN (h : Q (.int (i / 2 ^ k)) H) : rI (fun _ j => 0 ≤ j) (fun i j => .int (i / 2 ^ j.toNat)) (.int i) (.int (k : Int)) H Q := st_i (by omega) (by rw [Int.toNat_natCast]; exact h)
theorem st_shl1 (c : k ≤ 1000) (h : Q (.int ((2 ^ k : Nat) : Int)) H) : rI CPow (fun i j => .int (i * 2 ^ j.toNat)) (.int 1) (.int (k : Int)) H Q := st_i (cpow_n c) (by rw [Int.toNat_natCast, Int.one_mul, Tw.pow2_cast]; exact h)
theorem st_isi {c : V} {cv t : Value} (ty : TyOf K H v t) (e : PySem.W.kitOne K t cv = some p) (h : Q (.bl p) H) : rIsi K c cv [v, c] H Q := ⟨v, t, p, rfl, ty, e, h⟩
end
theorem iteD {c : Prop} [Decidable c] {A B : Prop} (h1 : c → A) (h2 : ¬ c → B) : if decide c = true then A else B := by
  by_cases h : c
  · rw [decide_eq_true h]; exact iteT (h1 h)
  · rw [decide_eq_false h]; exact iteF (h2 h)
theorem iteN {c : Prop} [Decidable c] {A B : Prop} (h1 : ¬ c → A) (h2 : c → B) : if (!decide c) = true then A else B := by
  by_cases h : c
  · rw [decide_eq_true h]; exact iteF (h2 h)
  · rw [decide_eq_false h]; exact iteT (h1 h)
theorem at_i {cs : List Int} {i : Nat} (h : i < cs.length) : ∃ c, atI (cs.map V.int) (i : Int) = some (.int c) :=
  ⟨cs[i], atI_nat (by rw [List.getElem?_map, List.getElem?_eq_getElem h]; rfl)⟩
theorem iteNT {A B : Prop} (h : B) : if (!true) = true then A else B := iteF h
theorem iteNF {A B : Prop} (h : A) : if (!false) = true then A else B := iteT h
end L2

set_option Elab.async false
set_option linter.all false
set_option maxRecDepth 100000
namespace L2
open PySem PySem.Spec PyProof.Rows
/-! A list comprehension of one clause: its block as a context of its own. -/
/-- the cells that a comprehension's block takes along -/
def clGo (env : Env) : List (Str × NameKind) → List (Str × Addr) → List (Str × Addr)
  | [], acc => acc
  | (n, k) :: r, acc => if (k == NameKind.free) = true then clGo env r ((n, (env.cells.lookup n).getD 0) :: acc) else clGo env r acc
theorem clGo_eq (env : Env) : ∀ (names : List (Str × NameKind)) (acc : List (Str × Addr)), (∀ p ∈ names, p.2 = .free → ∃ c, env.cells.lookup p.1 = some c) →
    (forIn names acc fun x r => match x with
      | (name, kind) => if (kind == NameKind.free) = true then (do let a ← cellOf env name; pure (ForInStep.yield ((name, a) :: r)) : Sem _) else pure (ForInStep.yield r)) = (pure (clGo env names acc) : Sem _)
  | [], _, _ => rfl
  | (n, k) :: r, acc, h => by
    rw [List.forIn_cons]
    by_cases hk : k = NameKind.free
    · subst hk
      obtain ⟨c, hc⟩ := h (n, .free) List.mem_cons_self rfl
      have e : cellOf env n = pure c := by unfold cellOf; rw [hc]
      simp only [beq_self_eq_true, if_true, e, pure_bind, clGo, hc, Option.getD_some]
      exact clGo_eq env r _ fun p hp => h p (List.mem_cons_of_mem _ hp)
    · have hb : (k == NameKind.free) = false := by simpa using hk
      simp only [hb, Bool.false_eq_true, if_false, pure_bind, clGo]
      exact clGo_eq env r _ fun p hp => h p (List.mem_cons_of_mem _ hp)
theorem closure_is {scope : Scope} {env : Env} (h : ∀ p ∈ scope.names, p.2 = .free → ∃ c, env.cells.lookup p.1 = some c) : closureFor scope env = pure (clGo env scope.names []) := by
  unfold closureFor
  have e := clGo_eq env scope.names [] h
  dsimp only
  rw [e]
  rfl
theorem clGo_lookup (env : Env) {y : Str} : ∀ (names : List (Str × NameKind)) (acc : List (Str × Addr)), (∀ p ∈ names, p.2 = .free → ∃ c, env.cells.lookup p.1 = some c) →
    ∀ c, (clGo env names acc).lookup y = some c → acc.lookup y = some c ∨ (env.cells.lookup y = some c)
  | [], _, _, _, e => .inl e
  | (n, k) :: r, acc, h, c, e => by
    rw [clGo] at e
    by_cases hk : (k == NameKind.free) = true
    · rw [if_pos hk] at e
      have hk' : k = NameKind.free := by simpa using hk
      obtain ⟨c', hc'⟩ := h (n, k) List.mem_cons_self hk'
      rcases clGo_lookup env r _ (fun p hp => h p (List.mem_cons_of_mem _ hp)) c e with q | q
      · rw [List.lookup_cons] at q
        cases hb : y == n with
        | true =>
          rw [hb] at q
          have hb' : y = n := eq_of_beq hb
          subst hb'
          have hc'' : env.cells.lookup y = some c' := hc'
          rw [hc'', Option.getD_some] at q
          rw [hc'']
          exact .inr q
        | false => rw [hb] at q; exact .inl q
      · exact .inr q
    · rw [if_neg hk] at e
      exact clGo_lookup env r _ (fun p hp => h p (List.mem_cons_of_mem _ hp)) c e
theorem clGo_has (env : Env) {y : Str} : ∀ (names : List (Str × NameKind)) (acc : List (Str × Addr)), (y, NameKind.free) ∈ names ∨ (∃ c, acc.lookup y = some c) → ∃ c, (clGo env names acc).lookup y = some c
  | [], _, h => h.elim (fun z => nomatch z) id
  | (n, k) :: r, acc, h => by
    rw [clGo]
    have up : ∀ v : Addr, (∃ c, acc.lookup y = some c) → ∃ c, ((n, v) :: acc).lookup y = some c := fun v ⟨c, e⟩ => by
      rw [List.lookup_cons]
      cases hb : y == n with
      | true => exact ⟨v, rfl⟩
      | false => exact ⟨c, e⟩
    by_cases hk : (k == NameKind.free) = true
    · rw [if_pos hk]
      refine clGo_has env r _ ?_
      rcases h with h | h
      · rcases List.mem_cons.mp h with z | z
        · cases z
          exact .inr ⟨(env.cells.lookup y).getD 0, by rw [List.lookup_cons, beq_self_eq_true]⟩
        · exact .inl z
      · exact .inr (up _ h)
    · rw [if_neg hk]
      refine clGo_has env r _ ?_
      rcases h with h | h
      · rcases List.mem_cons.mp h with z | z
        · cases z
          exact absurd rfl hk
        · exact .inl z
      · exact .inr h

def rlb (env : Env) (n : Str) (k : NameKind) : NameKind := if (k == .free && env.scope.kind == .function && env.kindOf n == some .cell) = true then .cell else k
theorem relabel_lookup (env : Env) (y : Str) : ∀ names : List (Str × NameKind),
    (names.map fun (n, k) => if (k == NameKind.free && env.scope.kind == .function && env.kindOf n == some .cell) = true then (n, NameKind.cell) else (n, k)).lookup y = (names.lookup y).map (rlb env y)
  | [] => rfl
  | (n, k) :: r => by
    have e : (if (k == NameKind.free && env.scope.kind == .function && env.kindOf n == some .cell) = true then (n, NameKind.cell) else (n, k)) = (n, rlb env n k) := by
      unfold rlb; split <;> rfl
    rw [List.map_cons]
    show List.lookup y ((if (k == NameKind.free && env.scope.kind == .function && env.kindOf n == some .cell) = true then (n, NameKind.cell) else (n, k)) :: _) = _
    rw [e, List.lookup_cons, List.lookup_cons]
    cases hb : y == n with
    | true => have := eq_of_beq hb; subst this; rfl
    | false => exact relabel_lookup env y r
theorem relabel_kind (scope : Scope) (env : Env) (y : Str) : (relabel scope env).names.lookup y = (scope.names.lookup y).map (rlb env y) := relabel_lookup env y scope.names
theorem mem_of_lookup {α β : Type} [BEq α] [LawfulBEq α] {y : α} {k : β} : ∀ {l : List (α × β)}, l.lookup y = some k → (y, k) ∈ l
  | (n, j) :: r, e => by
    rw [List.lookup_cons] at e
    cases hb : y == n with
    | true => rw [hb] at e; have := eq_of_beq hb; subst this; cases e; exact List.mem_cons_self
    | false => rw [hb] at e; exact List.mem_cons_of_mem _ (mem_of_lookup e)
/-- what the block's scope must be: its own name x, the rest free (a cell or free where the def stands) or global -/
structure CpScope (sc : Scope) (x : Str) (scope : Scope) : Prop where
  kind : scope.kind = .function
  cell : ∀ y ∈ scope.names, y.2 ≠ .cell
  own : scope.names.lookup x = some .local
  loc : ∀ y ∈ scope.names, y.2 = .local → y.1 = x ∨ y.1 = (".0" : Str)
  nam : ∀ y ∈ scope.names, y.2 = .local → scope.names.lookup y.1 = some .local
  free : ∀ y ∈ scope.names, y.2 = .free → sc.names.lookup y.1 = some .cell ∨ sc.names.lookup y.1 = some .free
  two : ∀ y ∈ scope.names, y.2 = .free → y.1 ≠ x
/-- the block's context -/
def Cx.comp (X : Cx) (M : List Str) (scope : Scope) (x : Str) (C : Addr) (s : Shared) (H : Hp) (ex : List Addr) : Cx :=
  { X with N := x :: M, s₀ := s, H₀ := H, env := compEnvC scope (clGo X.env scope.names []) C X.env, outer := X.stack, ex := ex, fn := fun _ => false, pn := [], xe := fun _ _ => False }
section
variable {X : Cx} {M : List Str} {pins : List (Addr × Obj)} {σ : St} {H : Hp} {s : Shared} {scope : Scope} {x : Str}
theorem CpScope.has (S : CpScope X.env.scope x scope) (ok : X.Ok) : ∀ p ∈ scope.names, p.2 = .free → ∃ c, X.env.cells.lookup p.1 = some c := fun p hp e => ok.has p.1 (S.free p hp e)
theorem CpScope.cells (S : CpScope X.env.scope x scope) (ok : X.Ok) {y : Str} {c : Addr} (e : (clGo X.env scope.names []).lookup y = some c) : X.env.cells.lookup y = some c := by
  rcases clGo_lookup X.env scope.names [] (S.has ok) c e with z | z
  · cases z
  · exact z
/-- a name that the block sees is its own, or free there -/
theorem CpScope.sees (S : CpScope X.env.scope x scope) {y : Str} (hy : (relabel scope X.env).names.lookup y ≠ some .local) (hv : Vis (relabel scope X.env) y) : (y, NameKind.free) ∈ scope.names ∧ ((relabel scope X.env).names.lookup y = some .cell ∨ (relabel scope X.env).names.lookup y = some .free) := by
  unfold Vis at hv
  rw [relabel_kind] at hv ⊢
  cases e : scope.names.lookup y with
  | none => rw [e] at hv; rcases hv with z | z | z <;> cases z
  | some k =>
    have hm := mem_of_lookup e
    rw [e] at hv
    have hk : k = .free := by
      by_cases hf : k = .free
      · exact hf
      · have hr : rlb X.env y k = k := by
          unfold rlb
          have : (k == NameKind.free) = false := by simpa using hf
          rw [this]; rfl
        rw [Option.map_some, hr] at hv
        rcases hv with z | z | z
        · rw [relabel_kind, e, Option.map_some, hr] at hy
          exact absurd z hy
        · exact absurd (Option.some.inj z) (S.cell _ hm)
        · exact Option.some.inj z
    subst hk
    refine ⟨hm, ?_⟩
    rw [Option.map_some]
    unfold rlb
    split
    · exact .inl rfl
    · exact .inr rfl
theorem CpScope.ok (S : CpScope X.env.scope x scope) (I : Inv X pins σ H s) {C : Addr} (hC : s.heap.objs.size ≤ C) {fp : List Addr} (hf : ∀ b ∈ fp, FpOk X pins H b) (hl : ∀ b ∈ fp, b < s.heap.objs.size) : (X.comp M scope x C s H fp).Ok where
  mod := I.ok.mod
  kind := S.kind
  glob := I.ok.glob
  blt := I.ok.blt
  above := hC
  inj := fun y z c e1 e2 => I.ok.inj y z c (S.cells I.ok e1) (S.cells I.ok e2)
  has := fun y hy => by
    have hv : Vis (relabel scope X.env) y := .inr hy
    have hne : (relabel scope X.env).names.lookup y ≠ some .local := fun e => by
      have hy' : (relabel scope X.env).names.lookup y = some .cell ∨ (relabel scope X.env).names.lookup y = some .free := hy
      rw [e] at hy'
      rcases hy' with q | q <;> cases q
    exact clGo_has X.env scope.names [] (.inl (S.sees hne hv).1)
  cab := fun _ _ z => nomatch z
  hd := I.ok.hd
  frames := I.ok.frames
  stk := .inl rfl
  exf := fun b hb => ⟨fun z => by
      have h1 := hl b hb
      have z' : b = C := z
      rw [z'] at h1
      exact Nat.not_le.mpr h1 hC, fun y c e => (hf b hb).2.2.2.2.1 y c (S.cells I.ok e)⟩
  bs := I.bs
  bsz := Nat.le_trans I.ok.bsz I.sz
  noex := fun b o e hb => by
    rcases (hf b hb).2.2.2.1 with z | z
    · exact I.ok.noex b o e z
    · have h1 := Heap.lt_size e
      have h2 := I.ok.bsz
      exact absurd (Nat.lt_of_lt_of_le (Nat.lt_of_lt_of_le h1 h2) z) (Nat.lt_irrefl _)
  exfs := fun b hb z => by
    rcases List.mem_cons.mp (I.stkSub b z) with q | q
    · exact (hf b hb).2.1 q
    · exact (hf b hb).2.2.1 q
  funs := I.stack
  frf := I.stkFree
/-- entering the block -/
theorem CpScope.inv (S : CpScope X.env.scope x scope) (hx : x ∉ M) (h0 : (".0" : Str) ∉ M) (hlen : M.length = X.N.length) (hM : ∀ (j : Nat) y, M[j]? = some y → X.N[j]? = some y ∨ scope.names.lookup y = none) (I : Inv X pins σ H s) {C : Addr} (hC : s.heap.objs.size ≤ C) {fp : List Addr} (hf : ∀ b ∈ fp, FpOk X pins H b) (hl : ∀ b ∈ fp, b < s.heap.objs.size) {h1 : Heap} {t1 : Nat}
    (old : ∀ b o, s.heap.get? b = some o → h1.get? b = some o) {m : Str → Option Value} (ns : h1.Ns C m) : Inv (X.comp M scope x C s H fp) [] (none :: σ) H { s with heap := h1, toks := t1 } where
  ok := S.ok I hC hf hl
  os := rfl
  bare := I.bare
  base := Un.kept old
  loc := by
    refine ⟨m, ns, fun i y v e1 e2 hv => ?_⟩
    cases i with
    | zero => cases e2
    | succ j =>
      have e1' : M[j]? = some y := by simpa [Cx.comp] using e1
      have e2' : σ[j]? = some (some v) := by simpa using e2
      by_cases hy : (relabel scope X.env).names.lookup y = some .local
      · exfalso
        rw [relabel_kind] at hy
        cases e : scope.names.lookup y with
        | none => rw [e] at hy; cases hy
        | some k =>
          rw [e, Option.map_some] at hy
          have hk : k = .local := by
            have hy' := Option.some.inj hy
            unfold rlb at hy'
            split at hy'
            · cases hy'
            · exact hy'
          rcases S.loc _ (mem_of_lookup e) hk with z | z
          · have z' : y = x := z
            subst z'; exact hx (List.mem_of_getElem? e1')
          · have z' : y = (".0" : Str) := z
            subst z'; exact h0 (List.mem_of_getElem? e1')
      · obtain ⟨hm, hk⟩ := S.sees hy hv
        obtain ⟨m0, _, hl0⟩ := I.loc
        have hx0 : Vis X.env.scope y := .inr (S.free _ hm rfl)
        have e1' : X.N[j]? = some y := by
          rcases hM j y e1' with z | z
          · exact z
          · exfalso
            unfold Vis at hv
            have hv' : (relabel scope X.env).names.lookup y = some .local ∨ (relabel scope X.env).names.lookup y = some .cell ∨ (relabel scope X.env).names.lookup y = some .free := hv
            rw [relabel_kind, z] at hv'
            rcases hv' with q | q | q <;> cases q
        obtain ⟨u, r, l⟩ := hl0 j y v e1' e2' hx0
        refine ⟨u, r, .inr ⟨hk, ?_⟩⟩
        obtain ⟨c, hc⟩ := clGo_has X.env scope.names [] (.inl hm)
        refine ⟨c, hc, ?_⟩
        have hc0 := S.cells I.ok hc
        rcases l with ⟨k0, _⟩ | ⟨_, c0, e0, q0⟩
        · rcases S.free _ hm rfl with z | z
          · have k0' : X.env.scope.names.lookup y = some .local := k0
            rw [z] at k0'; cases k0'
          · have k0' : X.env.scope.names.lookup y = some .local := k0
            rw [z] at k0'; cases k0'
        · rw [hc0] at e0; cases e0
          obtain ⟨o, ho, hd⟩ := q0
          exact ⟨o, old _ _ ho, hd⟩
  cell := fun y c e => by
    obtain ⟨v, o, ho, hd⟩ := I.cell y c (S.cells I.ok e)
    exact ⟨v, o, old _ _ ho, hd⟩
  free := I.hok.fresh hC
  freeC := fun y c e => I.freeC y c (S.cells I.ok e)
  pin := fun p hp => by cases hp
  hok := I.hok.kept old
  len := by simp [Cx.comp, I.len, hlen]
end
/-! the tests of the clause -/
def PIfs (X : Cx) (ifs : List Expr) (t : TT) : Prop :=
  ∀ (pins : List (Addr × Obj)) (s : Shared) (σ : St) (H : Hp) (Q : Bool → Hp → Prop), Inv X pins σ H s → t σ H Q →
    wpAny (model X.prog X.w) X.A (forIn ifs true fun c r => if r = true then do let ok ← isTrue c X.env (eval c X.env); pure (ForInStep.yield ok) else pure (ForInStep.yield r)) (TP X pins σ Q) X.xe s
def tYes : TT := fun _ H Q => Q true H
theorem pif_nil {X : Cx} : PIfs X [] tYes := fun _ _ _ H _ I h => wpAny_tests_nil ⟨H, I, h⟩
theorem pif_one {X : Cx} {c : Expr} {t : TT} (h : PT X c t) : PIfs X [c] t := fun pins s σ H Q I q => wpAny_tests_one (h pins s σ H Q I q)
theorem compLoop_any {prog : Program} {w : World} {A : Around} {R : Result → Shared → Prop} {s : Shared} {elt target iter : Expr} {ifs : List Expr} {scope : Scope} {pos : Pos} {it acc : Value} {env : Env} (I : Nat → Shared → Prop)
    (turn : ∀ n s, I n s → wpAny (model prog w) A (pyNext it) (fun r s₁ => match r with
      | none => R (.ok .next) s₁
      | some v => wpAny (model prog w) A (letOwnedTupleGo target it v) (fun _ s₀ => wpAny (model prog w) A (assign target env v) (fun _ s₂ =>
          wpAny (model prog w) A (forIn ifs true fun c r => if r = true then do let ok ← isTrue c env (eval c env); pure (ForInStep.yield ok) else pure (ForInStep.yield r)) (fun ok s₃ =>
            if ok = true then wpAny (model prog w) A (eval elt env) (fun x s₄ =>
              wpAny (model prog w) A (call (.builtin "list.append") [acc, x]) (fun _ s₅ => ∃ m, m < n ∧ I m s₅) (fun _ _ => False) s₄) (fun _ _ => False) s₃
            else ∃ m, m < n ∧ I m s₃) (fun _ _ => False) s₂) (fun _ _ => False) s₀) (fun _ _ => False) s₁) (fun _ _ => False) s)
    (n : Nat) (h : I n s) : codeAny (model prog w) A (.compLoop (.ListComp elt [⟨target, iter, ifs, 0⟩] scope pos) 0 it acc env) R s := by
  refine codeAny_loop rfl I (fun n s hI => ?_) n h
  show wpAny _ A ((compTurn (.ListComp elt [⟨target, iter, ifs, 0⟩] scope pos) 0 it acc env).onRaise (fun x => do noteFrame x env; theTreesLotGoes x)) _ _ s
  refine wpAny_noted ?_
  rw [compTurn_list]
  refine wpAny_bind (wpAny_standAt (wpAny_bind (wpAny_mono (turn n s hI) (fun r s₁ h₁ => ?_) fun _ _ h' => h'.elim)))
  cases r with
  | none => exact wpAny_pure h₁
  | some v =>
    refine wpAny_bind (wpAny_mono h₁ (fun _ s₀ h₀ => ?_) fun _ _ h' => h'.elim)
    refine wpAny_bind (wpAny_mono h₀ (fun _ s₂ h₂ => wpAny_bind (wpAny_mono h₂ (fun ok s₃ h₃ => ?_) fun _ _ h' => h'.elim)) fun _ _ h' => h'.elim)
    cases ok with
    | false => exact wpAny_pure ⟨rfl, h₃⟩
    | true =>
      exact wpAny_bind (wpAny_bind (wpAny_mono h₃ (fun x s₄ h₄ => wpAny_bind (wpAny_mono h₄ (fun _ s₅ h₅ => wpAny_pure (wpAny_pure ⟨rfl, h₅⟩)) fun _ _ h' => h'.elim)) fun _ _ h' => h'.elim))
/-- what a comprehension asks: an invariant over the turn, a measure and the list made so far -/
def tComp (wi : TI) (tt : TT) (te : TE) : TE := fun σ H Q => wi σ H fun J H1 => ∃ W : Nat → Nat → List V → Hp → Prop, (∃ m, W 0 m [] H1) ∧ ∀ i m ys H, W i m ys H →
  (J.stop i H ∧ ∀ p, H p = none → Q (.ref p) (upd H p (.lst ys))) ∨
  (J.go i H ∧ ys.length < sizeLine ∧ ∃ N : List V → Hp → Prop, (∀ ys' H', N ys' H' → ∃ m', m' < m ∧ W (i + 1) m' ys' H') ∧
    ∀ x H', J.yld i H x H' → tt (some x :: σ) H' fun b H2 => if b = true then te (some x :: σ) H2 fun y H3 => N (ys ++ [y]) H3 else N ys H2)
section
variable {X : Cx} {M : List Str} {scope : Scope} {x : Str} {px pos : Pos} {elt iter : Expr} {ifs : List Expr} {wi : TI} {tt : TT} {te : TE}
theorem comp_core {sc : Scope} {use : Option (Value → Sem Unit)} {QQ : Value → Shared → Prop} {Q : VK} {pins : List (Addr × Obj)} {s : Shared} {σ : St} {H : Hp} {cpos : Pos} (hsc : X.env.scope = sc) (S : CpScope sc x scope) (hx : x ∉ M) (h0 : (".0" : Str) ∉ M) (hN : M.Nodup) (hlen : M.length = X.N.length) (hM : ∀ (j : Nat) y, M[j]? = some y → X.N[j]? = some y ∨ scope.names.lookup y = none) (hc : X.calm = true) (hi : PI X (.Name x px) iter wi)
    (ht : ∀ C s H ex, PIfs (X.comp M scope x C s H ex) ifs tt) (he : ∀ C s H ex, PE (X.comp M scope x C s H ex) elt te) (I : Inv X pins σ H s) (h : tComp wi tt te σ H Q)
    (fin : ∀ (D C : Addr) (s4 : Shared) (H4 : Hp), C ≠ X.env.locals → (∀ y c, X.env.cells.lookup y = some c → c ≠ C) → (∀ p ∈ X.pn ++ pins, p.1 ≠ C) → X.s₀.heap.objs.size ≤ C → H4 C = none → (∃ m, s4.heap.Ns C m) →
      (∀ h', Heap.SameBut C s4.heap h' → Inv X pins σ H4 { s4 with heap := h' }) → Q (.ref D) H4 → compPost (model X.prog X.w) X.A X.xe use QQ (.ref D) C (.ok .next) s4)
    (hs : ∀ v, foldedSetIterable iter X.env v = pure v) :
    wpAny (model X.prog X.w) X.A (comprehension (.ListComp elt [⟨.Name x px, iter, ifs, 0⟩] scope pos) scope X.env cpos (newList []) false (eval iter X.env) use) QQ X.xe s := by
  subst hsc
  have hnames := S.nam
  refine wpAny_comprehension_free (use := use) rfl hs (closure_is (S.has I.ok)) S.kind hnames (thn (hi pins s σ H _ I h) fun v s1 h1 => thn h1 fun itv s2 h2 => ?_)
  obtain ⟨it, fp, tn, J, H2, e, I2, T, st2, f2, W, ⟨m0, w0⟩, turn⟩ := h2
  subst e
  refine wpAny_newObj_type (wpAny_newFunctionEnv S.cell (by intro y hy; simp at hy) (fun h₁ hns₁ hsb₁ => ?_) S.kind)
  dsimp only at hns₁ hsb₁ ⊢
  generalize hG : s2.heap.push { cls := .type "list", dict := none, data := .seq ([] : List Value).toArray } = G at hns₁ hsb₁ ⊢
  have hC : G.objs.size = s2.heap.objs.size + 1 := by rw [← hG, Heap.size_push]
  have hDC : s2.heap.objs.size ≠ G.objs.size := by omega
  have below : ∀ b, b < s2.heap.objs.size → b ≠ G.objs.size ∧ b ≠ s2.heap.objs.size := fun b hb => ⟨by omega, by omega⟩
  have old : ∀ b o, s2.heap.get? b = some o → h₁.get? b = some o := fun b o e => hsb₁.extBut b o (below b (Heap.lt_size e)).1 (Heap.get?_push_of_some _ (hG ▸ Heap.get?_push_of_some _ e))
  have hacc : h₁.get? s2.heap.objs.size = some { cls := .type "list", data := .seq ([] : List Value).toArray } := hsb₁.extBut _ _ hDC (Heap.get?_push_of_some _ (hG ▸ Heap.get?_push_size _ rfl))
  have hlt : ∀ b ∈ fp, b < s2.heap.objs.size := fun b hb => by
    obtain ⟨o, e, _⟩ := T.obj _ _ st2 b hb
    exact Heap.lt_size e
  have ctop : ∀ y c, (clGo X.env scope.names []).lookup y = some c → c < s2.heap.objs.size := fun y c e => by
    obtain ⟨v, q⟩ := I2.cell y c (S.cells I2.ok e)
    exact q.lt
  have hCle : s2.heap.objs.size ≤ G.objs.size := by omega
  have IY : ∀ t1, Inv (X.comp M scope x G.objs.size s2 H2 fp) [] (none :: σ) H2 { s2 with heap := h₁, toks := t1 } := fun t1 => S.inv hx h0 hlen hM I2 hCle f2 hlt old hns₁
  have nost : ∀ b, s2.heap.objs.size ≤ b → b ∉ frs X.stack := fun b hb z => by
    rcases List.mem_cons.mp (I2.stkSub b z) with q | q
    · exact Nat.not_le.mpr I2.lt (q ▸ hb)
    · exact I2.nofs hb q
  have hD : s2.heap.objs.size ∉ frs X.stack := nost _ (Nat.le_refl _)
  have ptop : ∀ {pl : List (Addr × Obj)} {H' : Hp}, (∀ b ∈ fp, H' b = none) → (∀ p ∈ pl, p.1 ∉ fp) → ∀ b ∈ fp, FpOk (X.comp M scope x G.objs.size s2 H2 fp) pl H' b := fun {pl H'} hn hp b hb =>
    ⟨hn b hb, fun z => (below b (hlt b hb)).1 z, fun z => (S.ok I2 hCle f2 hlt).exfs b hb z, .inl hb, fun y c e => (f2 b hb).2.2.2.2.1 y c (S.cells I2.ok e), fun p hp' z => hp p hp' (z ▸ hb)⟩
  have Dfp : s2.heap.objs.size ∉ fp := fun z => Nat.lt_irrefl _ (hlt _ z)
  have loop : ∀ t1, codeAny (model X.prog X.w) X.A (.compLoop (.ListComp elt [⟨.Name x px, iter, ifs, 0⟩] scope pos) 0 (.ref it) (.ref s2.heap.objs.size) (compEnvC scope (clGo X.env scope.names []) G.objs.size X.env))
      (compPost (model X.prog X.w) X.A X.xe use QQ (.ref s2.heap.objs.size) G.objs.size) { s2 with heap := h₁, toks := t1 } := by
    intro t1
    refine compLoop_any (fun n s' => ∃ i o H' ys its k, Inv (X.comp M scope x G.objs.size s2 H2 fp) [(s2.heap.objs.size, { cls := .type "list", data := .seq its k })] (o :: σ) H' s' ∧ tn i s'.heap ∧ (∀ b ∈ fp, H' b = none) ∧ Vals ys its.toList ∧ ys.length ≤ sizeLine ∧ W i n ys H')
      ?_ m0 ⟨0, none, H2, [], #[], 0, ?_, T.keep _ _ _ st2 fun b _ o e => old b o e, fun b hb => (f2 b hb).1, .nil, Nat.zero_le _, w0⟩
    · rintro n s3 ⟨i, o, H3, ys, its, k, I3, st3, fr3, vs3, z3, w3⟩
      have pD : ∀ p ∈ [(s2.heap.objs.size, ({ cls := .type "list", data := .seq its k } : Obj))], p.1 ∉ fp := fun p hp => by
        have e : p = _ := List.mem_singleton.mp hp
        subst e; exact Dfp
      rcases turn i n ys H3 w3 with ⟨stop, qn⟩ | ⟨go, hz, N, hN', step⟩
      · refine wpAny_mono (T.done (X.comp M scope x G.objs.size s2 H2 fp) rfl rfl rfl hc i _ s3 (o :: σ) H3 (fun _ _ => False) I3 (ptop fr3 pD) st3 stop) (fun r s4 ⟨hr, I4⟩ => ?_) fun _ _ f => f
        subst hr
        obtain ⟨m4, hn4, _⟩ := I4.loc
        obtain ⟨eD, nD, _⟩ := I4.pin _ (List.mem_singleton.mpr rfl)
        have nC : H3 G.objs.size = none := I4.free
        refine fin s2.heap.objs.size G.objs.size s4 (upd H3 s2.heap.objs.size (.lst ys)) (fun z => Nat.not_le.mpr I2.lt (z ▸ hCle)) (fun y c e z => ?_) (fun p hp z => ?_) (Nat.le_trans I2.sz hCle) (by rw [upd_ne (Ne.symm hDC)]; exact nC) ⟨m4, hn4⟩ (fun h' hs' => ?_) (qn _ nD)
        · obtain ⟨v, q⟩ := I2.cell y c e
          exact Nat.not_le.mpr q.lt (z ▸ hCle)
        · exact Nat.not_le.mpr (Heap.lt_size (I2.pin p hp).1) (z ▸ hCle)
        have eD' : h'.get? s2.heap.objs.size = some { cls := .type "list", data := .seq its k } := hs'.extBut _ _ hDC eD
        have stp : ∀ b o, s2.heap.get? b = some o → b ≠ G.objs.size ∧ b ≠ s2.heap.objs.size := fun b o e => below b (Heap.lt_size e)
        have un : Un (frs X.stack) fp H2 (upd H3 s2.heap.objs.size (.lst ys)) s2.heap h' := by
          have B := I4.base
          refine ⟨fun b o e n1 n2 n3 => hs'.extBut _ _ (stp b o e).1 (B.keep b o e n1 n2 n3), fun b o e n1 n2 n3 => ?_, fun b o e n1 n3 => ?_, fun b o e n3 => ?_, fun b xs e => ?_, fun b o u e => ?_, fun b ps e => ?_⟩
          · obtain ⟨sl, q⟩ := B.slot b o e n1 n2 n3
            exact ⟨sl, hs'.extBut _ _ (stp b o e).1 q⟩
          · rw [upd_ne (stp b o e).2]; exact B.free b o e n1 n3
          · obtain ⟨o', q⟩ := B.there b o e n3
            exact ⟨o', hs'.extBut _ _ (stp b o e).1 q⟩
          · have q := B.tups b xs e
            rw [upd_ne (ne_of_none q nD)]; exact q
          · have q := B.frzs b o u e
            rw [upd_ne (ne_of_none q nD)]; exact q
          · obtain ⟨more, q⟩ := B.tbls b ps e
            exact ⟨more, by rw [upd_ne (ne_of_none q nD)]; exact q⟩
        have hok : HOk X.prog X.w (upd H3 s2.heap.objs.size (.lst ys)) h' := fun b u e => by
          by_cases hb : b = s2.heap.objs.size
          · subst hb
            rw [upd_same] at e
            cases e
            exact ⟨z3, its.toList, k, vs3, by simpa using eD'⟩
          · rw [upd_ne hb] at e
            refine (I4.hok b u e).stay (fun c v hc' q => hs'.extBut _ _ (fun z => ?_) q) (fun c q => by rw [upd_ne (ne_of_none q nD)]; exact q) fun c xs q => by rw [upd_ne (ne_of_none q nD)]; exact q
            rcases hc' with r | r
            · rw [r] at z; rw [z, nC] at e; cases e
            · rw [z, nC] at r; cases r
        refine I2.call' (s' := { s4 with heap := h' }) I4.os un hok I4.bare (fun b hb => ?_)
        obtain ⟨f0, f1, f2', f3, f4, f5⟩ := f2 b hb
        exact ⟨f3, f1, f4, f5⟩
      · refine wpAny_mono (T.item (X.comp M scope x G.objs.size s2 H2 fp) rfl rfl rfl hc i _ s3 (o :: σ) H3 (fun _ _ => False) I3 (ptop fr3 pD) st3 go) (fun r s4 ⟨u, hr, h4⟩ => ?_) fun _ _ f => f
        subst hr
        refine wpAny_mono h4 (fun _ s5 ⟨v5, H5, I5, r5, y5, st5, fr5⟩ => ?_) fun _ _ f => f
        have I5' := I5.pinned (ptop fr5 pD) (T.obj _ _ st5)
        have hnd : (X.comp M scope x G.objs.size s2 H2 fp).N.Nodup := List.nodup_cons.mpr ⟨hx, hN⟩
        have hloc : (relabel scope X.env).names.lookup x = some .local := lookup_relabel_local S.own
        refine wpAny_mono (pg_name (X := X.comp M scope x G.objs.size s2 H2 fp) (i := 0) (pos := px) hnd rfl (.inl hloc) (.inr hloc) _ s5 (o :: σ) H5 v5 u (fun σ6 H6 => σ6 = some v5 :: σ ∧ H6 = H5) I5' r5 ⟨rfl, rfl⟩) (fun _ s6 ⟨σ6, H6, I6, e6, e6'⟩ => ?_) fun _ _ f => f
        subst e6 e6'
        have later : ∀ {σ7 : St} {H7 : Hp} {s7 : Shared}, Inv (X.comp M scope x G.objs.size s2 H2 fp) ([(s2.heap.objs.size, { cls := .type "list", data := .seq its k })] ++ pinsAt fp s5.heap) σ7 H7 s7 → tn (i + 1) s7.heap ∧ (∀ b ∈ fp, H7 b = none) := fun {σ7 H7 s7} I7 =>
          ⟨T.keep _ _ _ st5 fun b hb o e => (I7.pin (b, o) (List.mem_append_right _ (List.mem_append_right _ (mem_pinsAt hb e)))).1, fun b hb => by
            obtain ⟨o, e, d⟩ := T.obj _ _ st5 b hb
            exact (I7.pin (b, o) (List.mem_append_right _ (List.mem_append_right _ (mem_pinsAt hb e)))).2.1⟩
        refine wpAny_mono (ht _ _ _ _ _ s6 (some v5 :: σ) H6 _ I6 (step v5 H6 y5)) (fun ok s7 ⟨H7, I7, q7⟩ => ?_) fun _ _ f => f
        cases ok with
        | false =>
          obtain ⟨m', hm, w7⟩ := hN' _ _ q7
          exact ⟨m', hm, i + 1, some v5, H7, ys, its, k, I7.unpinned, (later I7).1, (later I7).2, vs3, z3, w7⟩
        | true =>
          refine wpAny_mono (he _ _ _ _ _ s7 (some v5 :: σ) H7 _ I7 q7) (fun uy s8 ⟨y8, H8, I8, r8, q8⟩ => ?_) fun _ _ f => f
          obtain ⟨m', hm, w8⟩ := hN' _ _ q8
          obtain ⟨eD, nD, _⟩ := I8.pin (s2.heap.objs.size, { cls := .type "list", data := .seq its k }) (List.mem_append_right _ (List.mem_append_left _ (List.mem_singleton.mpr rfl)))
          have hsz : its.size ≤ sizeLine := by
            have := vs3.length
            have e2 : its.toList.length = its.size := by simp
            omega
          refine wpAny_list_append_plain (hsz := hsz) ⟨k, eD⟩ fun h9 pl9 sb9 => ?_
          obtain ⟨k9, e9⟩ := pl9
          obtain ⟨st8, fr8⟩ := later I8
          have I8' : Inv (X.comp M scope x G.objs.size s2 H2 fp) [] (some v5 :: σ) H8 s8 := I8.pins_of fun p hp => nomatch hp
          have I9 : Inv (X.comp M scope x G.objs.size s2 H2 fp) [] (some v5 :: σ) H8 { s8 with heap := h9 } :=
            I8'.turned (t' := s8.toks) (fun b o hb e => sb9.extBut b o hb e) nD hDC (.inr (Nat.le_refl _)) (fun y c e z => by have := ctop y c e; rw [z] at this; exact Nat.lt_irrefl _ this) fun p hp => nomatch hp
          refine ⟨m', hm, i + 1, some v5, H8, ys ++ [y8], its.push uy, k9, I9.pins_of fun p hp => ?_, T.keep _ _ _ st8 fun b hb o e => sb9.extBut b o (fun z => Dfp (z ▸ hb)) e, fr8, ?_, ?_, w8⟩
          · have e : p = _ := List.mem_singleton.mp hp
            subst e
            exact ⟨e9, nD, hDC, hD, fun v z => by cases z⟩
          · rw [Array.toList_push]
            exact vs3.append (.cons r8 .nil)
          · rw [List.length_append, List.length_singleton]; omega
    · refine (IY t1).pins_of fun p hp => ?_
      have e : p = _ := List.mem_singleton.mp hp
      subst e
      exact ⟨hacc, I2.hok.fresh (Nat.le_refl _), hDC, hD, fun v z => by cases z⟩
  exact codeAny_compStart_list (loop _) (T.self _ 0 _ _ _ (T.keep _ _ _ st2 fun b _ o e => old b o e) (loop _))
theorem pe_comp {sc : Scope} (hsc : X.env.scope = sc) (S : CpScope sc x scope) (hx : x ∉ X.N) (h0 : (".0" : Str) ∉ X.N) (hN : X.N.Nodup) (hc : X.calm = true) (hi : PI X (.Name x px) iter wi)
    (ht : ∀ C s H ex, PIfs (X.comp X.N scope x C s H ex) ifs tt) (he : ∀ C s H ex, PE (X.comp X.N scope x C s H ex) elt te) (hs : ∀ v, foldedSetIterable iter X.env v = pure v := by intro _; rfl) :
    PE X (.ListComp elt [⟨.Name x px, iter, ifs, 0⟩] scope pos) (tComp wi tt te) := by
  intro pins s σ H Q I h
  rw [eval_ListComp]
  exact comp_core (use := none) (M := X.N) hsc S hx h0 hN rfl (fun _ _ e => .inl e) hc hi ht he I h (fun D C s4 H4 _ _ _ _ _ hn inv q => let ⟨m, hn⟩ := hn; ⟨m, hn, fun h' hs' => ⟨.ref D, H4, inv h' hs', rfl, q⟩⟩) hs
theorem zip_or {scope : Scope} : ∀ {M N : List Str}, (M.zip N).all (fun p => p.1 == p.2 || (scope.names.lookup p.1).isNone) = true → M.length = N.length → ∀ (j : Nat) y, M[j]? = some y → N[j]? = some y ∨ scope.names.lookup y = none
  | [], _, _, _, j, y, e => by simp at e
  | _ :: _, [], _, hl, _, _, _ => by cases hl
  | m :: M, n :: N, h, hl, 0, y, e => by
    have e' : m = y := Option.some.inj e
    subst e'
    rw [List.zip_cons_cons, List.all_cons, Bool.and_eq_true, Bool.or_eq_true] at h
    rcases h.1 with z | z
    · exact .inl (by rw [show n = m from (eq_of_beq z).symm]; rfl)
    · exact .inr (Option.isNone_iff_eq_none.mp z)
  | m :: M, n :: N, h, hl, j + 1, y, e => by
    rw [List.zip_cons_cons, List.all_cons, Bool.and_eq_true] at h
    exact zip_or h.2 (Nat.succ.inj hl) j y e
/-- name = [.. for ..] -/
theorem ps_setC {sc : Scope} {i : Nat} {y : Str} {py spos : Pos} (hi' : X.N[i]? = some y) (hy : Loc X.env.scope y) (hsc : X.env.scope = sc) (S : CpScope sc x scope) (hx : x ∉ X.N) (h0 : (".0" : Str) ∉ X.N) (hN : X.N.Nodup) (hc : X.calm = true) (hi : PI X (.Name x px) iter wi)
    (ht : ∀ C s H ex, PIfs (X.comp X.N scope x C s H ex) ifs tt) (he : ∀ C s H ex, PE (X.comp X.N scope x C s H ex) elt te) (hs : ∀ v, foldedSetIterable iter X.env v = pure v := by intro _; rfl)
    (hsw : swapsWith (.ListComp elt [⟨.Name x px, iter, ifs, 0⟩] scope pos) (some (.Name y py)) spos.line X.env = pure true := by rfl)
    (hf : X.fn y = true ∨ X.env.scope.names.lookup y = some .local := by first | exact .inl rfl | exact .inr rfl | assumption) :
    PS X (.Assign [.Name y py] (.ListComp elt [⟨.Name x px, iter, ifs, 0⟩] scope pos) spos) (tAsg (tComp wi tt te) (gName i)) := by
  intro pins s σ H D I h
  rw [exec_Assign_Name_used _ _ _ _ hsw]
  refine wpAny_bind (wpAny_standAt (wpAny_bind ?_))
  show wpAny _ X.A (do let _ ← comprehension (.ListComp elt [⟨.Name x px, iter, ifs, 0⟩] scope pos) scope X.env _ (newList []) false (eval iter X.env) (some (assign (.Name y py) X.env))) _ _ s
  refine wpAny_bind (wpAny_mono (comp_core (use := some (assign (.Name y py) X.env)) (QQ := fun _ s' => SP X pins D .next s') (M := X.N) hsc S hx h0 hN rfl (fun _ _ e => .inl e) hc hi ht he I h (fun D' C s4 H4 c1 c2 c3 c4 c5 hn inv q => ?_) hs) (fun _ s' hq => wpAny_pure (wpAny_pure hq)) fun _ _ e => e)
  obtain ⟨m, hn⟩ := hn
  show wpAny _ X.A (assign (.Name y py) X.env (.ref D')) _ _ s4
  refine wpAny_assign_Name (store_ok2 (v := .ref D') (inv s4.heap (.refl ..)) hN hi' hy rfl (fun s5 I5 ⟨a, sb, ha⟩ => ?_) hf)
  have hCa : C ≠ a := by
    rcases ha with r | r
    · rw [r]; exact c1
    · exact fun z => c2 _ _ r z.symm
  exact ⟨m, hn.sameBut sb hCa, fun h' hs' => ⟨_, H4, I5.turned (t' := s5.toks) (fun b o hb e => hs'.extBut b o hb e) c5 c1 (.inr c4) c2 c3, q⟩⟩
end
/-- over a range -/
theorem comp_range {n : Nat} {tt : TT} {te : TE} {Q : VK} {σ : St} {H : Hp} (Pv : Nat → List V → Hp → Prop) (hn : n ≤ 1000) (h0 : Pv 0 [] H) (hl : ∀ i ys H, Pv i ys H → ys.length ≤ i)
    (hs : ∀ i ys H, i < n → Pv i ys H → tt (some (.int (i : Int)) :: σ) H fun b H2 => if b = true then te (some (.int (i : Int)) :: σ) H2 fun y H3 => Pv (i + 1) (ys ++ [y]) H3 else Pv (i + 1) ys H2)
    (hd : ∀ ys H, Pv n ys H → ∀ p, H p = none → Q (.ref p) (upd H p (.lst ys))) :
    ∃ W : Nat → Nat → List V → Hp → Prop, (∃ m, W 0 m [] H) ∧ ∀ i m ys H, W i m ys H → ((Itr 0 n).stop i H ∧ ∀ p, H p = none → Q (.ref p) (upd H p (.lst ys))) ∨
      ((Itr 0 n).go i H ∧ ys.length < sizeLine ∧ ∃ N : List V → Hp → Prop, (∀ ys' H', N ys' H' → ∃ m', m' < m ∧ W (i + 1) m' ys' H') ∧
        ∀ x H', (Itr 0 n).yld i H x H' → tt (some x :: σ) H' fun b H2 => if b = true then te (some x :: σ) H2 fun y H3 => N (ys ++ [y]) H3 else N ys H2) := by
  refine ⟨fun i m ys H => m = n - i ∧ i ≤ n ∧ Pv i ys H, ⟨n, by simp, Nat.zero_le _, h0⟩, ?_⟩
  rintro i m ys H ⟨rfl, hi, p⟩
  by_cases hlt : i < n
  · refine .inr ⟨hlt, small1000 (by have := hl i ys H p; omega), Pv (i + 1), fun ys' H' p' => ⟨n - (i + 1), by omega, rfl, hlt, p'⟩, fun x H' y => ?_⟩
    obtain ⟨e, y⟩ := y
    subst e y
    rw [Int.zero_add]
    exact hs i ys _ hlt p
  · have e : i = n := by omega
    subst e
    exact .inl ⟨Nat.le_refl _, hd ys H p⟩
theorem st_comp_range {ta : TE} {n : Nat} {tt : TT} {te : TE} {Q : VK} {σ : St} {H : Hp} (hn : n ≤ 1000) (e : ∀ P : V → Hp → Prop, P (.int (n : Int)) H → ta σ H P) (Pv : Nat → List V → Hp → Prop) (h0 : Pv 0 [] H) (hl : ∀ i ys H, Pv i ys H → ys.length ≤ i)
    (hs : ∀ i ys H, i < n → Pv i ys H → tt (some (.int (i : Int)) :: σ) H fun b H2 => if b = true then te (some (.int (i : Int)) :: σ) H2 fun y H3 => Pv (i + 1) (ys ++ [y]) H3 else Pv (i + 1) ys H2)
    (hd : ∀ ys H, Pv n ys H → ∀ p, H p = none → Q (.ref p) (upd H p (.lst ys))) : tComp (iRng1 (tCons ta tNil)) tt te σ H Q :=
  e _ ⟨(n : Int), rfl, by omega, by omega, comp_range Pv hn h0 hl hs hd⟩
/-- over a tuple or a list that the block leaves as it is -/
theorem comp_tup {K : PySem.W.Frag} {a : Addr} {xs : List V} {tt : TT} {te : TE} {Q : VK} {σ : St} {H : Hp} (Pv : Nat → List V → Hp → Prop) (hn : xs.length ≤ 1000) (h0 : Pv 0 [] H) (hl : ∀ i ys H, Pv i ys H → ys.length ≤ i) (hk : ∀ i ys H, Pv i ys H → SqT K H a xs)
    (hs : ∀ i x ys H, xs[i]? = some x → Pv i ys H → tt (some x :: σ) H fun b H2 => if b = true then te (some x :: σ) H2 fun y H3 => Pv (i + 1) (ys ++ [y]) H3 else Pv (i + 1) ys H2)
    (hd : ∀ ys H, Pv xs.length ys H → ∀ p, H p = none → Q (.ref p) (upd H p (.lst ys))) :
    ∃ W : Nat → Nat → List V → Hp → Prop, (∃ m, W 0 m [] H) ∧ ∀ i m ys H, W i m ys H → ((Itt K a).stop i H ∧ ∀ p, H p = none → Q (.ref p) (upd H p (.lst ys))) ∨
      ((Itt K a).go i H ∧ ys.length < sizeLine ∧ ∃ N : List V → Hp → Prop, (∀ ys' H', N ys' H' → ∃ m', m' < m ∧ W (i + 1) m' ys' H') ∧
        ∀ x H', (Itt K a).yld i H x H' → tt (some x :: σ) H' fun b H2 => if b = true then te (some x :: σ) H2 fun y H3 => N (ys ++ [y]) H3 else N ys H2) := by
  refine ⟨fun i m ys H => m = xs.length - i ∧ i ≤ xs.length ∧ Pv i ys H, ⟨xs.length, by simp, Nat.zero_le _, h0⟩, ?_⟩
  rintro i m ys H ⟨rfl, hi, p⟩
  by_cases hlt : i < xs.length
  · refine .inr ⟨⟨xs, xs[i], hk i ys H p, by simp [hlt]⟩, small1000 (by have := hl i ys H p; omega), Pv (i + 1), fun ys' H' p' => ⟨xs.length - (i + 1), by omega, rfl, hlt, p'⟩, fun x H' y => ?_⟩
    obtain ⟨e, y⟩ := y
    subst e
    exact hs i x ys _ (y xs (hk i ys _ p)) p
  · have e : i = xs.length := by omega
    subst e
    exact .inl ⟨⟨xs, hk _ ys H p, Nat.le_refl _⟩, hd ys H p⟩
/-! int.bit_length -/
def rBitLen : V → List V → Hp → VK → Prop := fun x vs H Q => ∃ i, x = .int i ∧ vs = [] ∧ Q (.int (Builtin.Int.intBits i : Nat)) H
theorem mt_bit_length {X : Cx} : MtR X "int.bit_length" rBitLen := by
  intro pins s σ H x xs v us Q I rx rs h
  obtain ⟨i, rfl, rfl, q⟩ := h
  obtain ⟨t, rfl⟩ := rx
  cases rs
  exact call_int_bit_length ⟨.int _, H, I.tok _, ⟨_, rfl⟩, q⟩
end L2

/-! Own mathematics: the places of a number's bits. -/
namespace Tw
/-- the places below k at which n has a 1, rising -/
def plc (n : Nat) : Nat → List Nat
  | 0 => []
  | k + 1 => if n.testBit k then plc n k ++ [k] else plc n k
theorem plc_len (n : Nat) : ∀ k, (plc n k).length = cnt n.testBit k
  | 0 => rfl
  | k + 1 => by
    rw [plc, cnt]
    cases h : n.testBit k
    · simp [plc_len n k]
    · simp [plc_len n k]
theorem plc_lt (n : Nat) : ∀ k, ∀ x ∈ plc n k, x < k
  | 0, x, h => by simp [plc] at h
  | k + 1, x, h => by
    rw [plc] at h
    cases e : n.testBit k
    · rw [e] at h
      have := plc_lt n k x (by simpa using h)
      omega
    · rw [e] at h
      have h' : x ∈ plc n k ∨ x = k := by simpa using h
      rcases h' with z | z
      · have := plc_lt n k x z
        omega
      · omega
/-- what the places are worth together -/
def wor : List Nat → Nat
  | [] => 0
  | k :: r => 2 ^ k + wor r
end Tw

set_option Elab.async false
set_option linter.all false
set_option maxRecDepth 100000
namespace L2
open PySem PySem.Spec PyProof.Rows
/-! Steps of readings, second part. -/
def rLen (K : PySem.W.Frag) : List V → Hp → VK → Prop := fun xs H Q => (∃ p ys, xs = [.ref p] ∧ (SqL K H p ys ∨ SqT K H p ys) ∧ Q (.int (ys.length : Nat)) H) ∨ ∃ z, xs = [.str z] ∧ z.length ≤ sizeLine ∧ Q (.int (z.length : Nat)) H
theorem call_lenQ {X : Cx} : CallR X (.builtin "len") (rLen X.K) := call_len_seq.or call_len_str
section
variable {K : PySem.W.Frag} {H : Hp} {Q : VK} {D : Ends} {σ : St} {te : TE} {tA : TA} {g : TG} {tb : TS} {v w y : V} {a b l : Addr} {i j : Int} {xs ys zs : List V} {n : Nat} {T : String} {r : V → List V → Hp → VK → Prop}
theorem st_for_list {tl : TE} (e : ∀ P : V → Hp → Prop, P (.ref a) H → tl σ H P) (s : SqL K H a xs) (Pv : Nat → St → Hp → Prop) (h0 : Pv 0 σ H) (hl : ∀ i σ H, i ≤ xs.length → Pv i σ H → SqL K H a xs)
    (hs : ∀ i x σ H, xs[i]? = some x → Pv i σ H → g x σ H fun σ2 H2 => tb { D with nx := Pv (i + 1), ct := Pv (i + 1), bk := D.nx } σ2 H2) (hd : ∀ σ H, Pv xs.length σ H → D.nx σ H) : tFor (iList K tl) g tb D σ H :=
  e _ ⟨a, rfl, ⟨xs, s⟩, for_list Pv h0 hl hs hd⟩
def sForL (K : PySem.W.Frag) (g : TG) (tb : TS) (D : Ends) (σ : St) : V → Hp → Prop := fun x H => ∃ a, x = .ref a ∧ (∃ xs, SqL K H a xs) ∧ ∃ W : Nat → Nat → St → Hp → Prop, (∃ m, W 0 m σ H) ∧ ∀ i m σ H, W i m σ H →
  ((Itl K a).stop i H ∧ D.nx σ H) ∨ ((Itl K a).go i H ∧ ∃ N : St → Hp → Prop, (∀ σ' H', N σ' H' → ∃ m', m' < m ∧ W (i + 1) m' σ' H') ∧ ∀ x H', (Itl K a).yld i H x H' → g x σ H' fun σ2 H2 => tb { D with nx := N, ct := N, bk := D.nx } σ2 H2)
theorem st_forE {tl : TE} (h : tl σ H (sForL K g tb D σ)) : tFor (iList K tl) g tb D σ H := h
theorem st_forAt (s : SqL K H a xs) (Pv : Nat → St → Hp → Prop) (h0 : Pv 0 σ H) (hl : ∀ i σ H, i ≤ xs.length → Pv i σ H → SqL K H a xs)
    (hs : ∀ i x σ H, xs[i]? = some x → Pv i σ H → g x σ H fun σ2 H2 => tb { D with nx := Pv (i + 1), ct := Pv (i + 1), bk := D.nx } σ2 H2) (hd : ∀ σ H, Pv xs.length σ H → D.nx σ H) : sForL K g tb D σ (.ref a) H :=
  ⟨a, rfl, ⟨xs, s⟩, for_list Pv h0 hl hs hd⟩
theorem st_cat (h1 : H l = some (.lst xs)) (h2 : H b = some (.lst zs)) (hz : xs.length + zs.length ≤ 1000) (q : ∀ p, H p = none → Q (.ref p) (upd H p (.lst (xs ++ zs)))) : rCat (.ref l) (.ref b) H Q :=
  ⟨l, b, xs, zs, rfl, rfl, h1, h2, Nat.le_of_lt (small1000 hz), q⟩
theorem st_bm0 (h : te σ H fun x H1 => tyV K T x H1 ∧ r x [] H1 Q) : tBM0 K T r te σ H Q := h
theorem st_bm (h : te σ H fun x H1 => tyV K T x H1 ∧ tA σ H1 fun xs H2 => r x xs H2 Q) : tBM K T r te tA σ H Q := h
theorem st_tyI {P : Prop} (h : P) : tyV K "int" (.int i) H ∧ P := ⟨rfl, h⟩
theorem st_tyL {P : Prop} (s : SqL K H a xs) (h : P) : tyV K "list" (.ref a) H ∧ P := ⟨.inl ⟨rfl, xs, s⟩, h⟩
theorem st_bitlen (h : Q (.int (Builtin.Int.intBits i : Nat)) H) : rBitLen (.int i) [] H Q := ⟨i, rfl, rfl, h⟩
theorem st_append (h : H l = some (.lst xs)) (hz : xs.length ≤ 1000) (q : Q .non (upd H l (.lst (xs ++ [y])))) : rAppend (.ref l) [y] H Q := ⟨l, xs, y, rfl, rfl, h, small1000 hz, q⟩
theorem st_lenL (s : SqL K H a xs) (h : Q (.int (xs.length : Nat)) H) : rLen K [.ref a] H Q := .inl ⟨a, xs, rfl, .inl s, h⟩
theorem st_lenT (s : SqT K H a xs) (h : Q (.int (xs.length : Nat)) H) : rLen K [.ref a] H Q := .inl ⟨a, xs, rfl, .inr s, h⟩
end
theorem kit_NoneType_int {K : PySem.W.Frag} : PySem.W.kitOne K (.type "NoneType") (.type "int") = some false := by kernel_rfl
theorem kit_NoneType_bool {K : PySem.W.Frag} : PySem.W.kitOne K (.type "NoneType") (.type "bool") = some false := by kernel_rfl
theorem kit_bool_int {K : PySem.W.Frag} : PySem.W.kitOne K (.type "bool") (.type "int") = some true := by kernel_rfl
theorem kit_bool_bool {K : PySem.W.Frag} : PySem.W.kitOne K (.type "bool") (.type "bool") = some true := by kernel_rfl
theorem kit_int_int {K : PySem.W.Frag} : PySem.W.kitOne K (.type "int") (.type "int") = some true := by kernel_rfl
theorem kit_int_bool {K : PySem.W.Frag} : PySem.W.kitOne K (.type "int") (.type "bool") = some false := by kernel_rfl
theorem kit_str_int {K : PySem.W.Frag} : PySem.W.kitOne K (.type "str") (.type "int") = some false := by kernel_rfl
theorem kit_str_bool {K : PySem.W.Frag} : PySem.W.kitOne K (.type "str") (.type "bool") = some false := by kernel_rfl
theorem kit_tuple_tuple {K : PySem.W.Frag} : PySem.W.kitOne K (.type "tuple") (.type "tuple") = some true := by kernel_rfl
theorem bits_lt (n : Nat) : n < 2 ^ (Builtin.Int.intBits (n : Int)) := by
  unfold Builtin.Int.intBits
  by_cases h : n = 0
  · subst h; decide
  · have e : ((n : Int) == 0) = false := by
      rw [beq_eq_false_iff_ne]; omega
    rw [e]
    simp only [Bool.false_eq_true, if_false, Int.natAbs_natCast]
    exact Nat.lt_log2_self
theorem bits_le {n k : Nat} (h : n < 2 ^ k) : Builtin.Int.intBits (n : Int) ≤ k := by
  unfold Builtin.Int.intBits
  by_cases hn : n = 0
  · subst hn; simp
  · have e : ((n : Int) == 0) = false := by
      rw [beq_eq_false_iff_ne]; omega
    rw [e]
    simp only [Bool.false_eq_true, if_false, Int.natAbs_natCast]
    exact (Nat.log2_lt hn).mpr h
end L2

set_option Elab.async false
set_option linter.all false
set_option maxRecDepth 100000
namespace Tw
open PySem
/-- what a run comes to is one thing -/
theorem run_one {M : Model} {Γ : Ctx} {p : Pos} {t : Sem Fin} {fs : List Frame} {s s' : Shared} {e : End} (h : Runs M Γ p t fs s e s') : ∀ {e2 : End} {s2 : Shared}, Runs M Γ p t fs s e2 s2 → e = e2 ∧ s' = s2 := by
  induction h with
  | done => intro e2 s2 h2; cases h2; exact ⟨rfl, rfl⟩
  | raise => intro e2 s2 h2; cases h2; exact ⟨rfl, rfl⟩
  | yield => intro e2 s2 h2; cases h2; exact ⟨rfl, rfl⟩
  | again _ _ ih => intro e2 s2 h2; cases h2 with | again _ h => exact ih h
  | rule _ ih => intro e2 s2 h2; cases h2 with | rule h => exact ih h
  | «at» _ ih => intro e2 s2 h2; cases h2 with | «at» h => exact ih h
  | load g _ ih =>
    intro e2 s2 h2
    cases h2 with
    | load g2 h =>
      rw [g] at g2
      cases g2
      exact ih h
  | update _ _ ih => intro e2 s2 h2; cases h2 with | update _ h => exact ih h
  | loadIfAlive _ ih => intro e2 s2 h2; cases h2 with | loadIfAlive h => exact ih h
  | point _ ih => intro e2 s2 h2; cases h2 with | point h => exact ih h
  | alloc _ ih => intro e2 s2 h2; cases h2 with | alloc h => exact ih h
  | fresh _ ih => intro e2 s2 h2; cases h2 with | fresh h => exact ih h
  | ask _ ih => intro e2 s2 h2; cases h2 with | ask h => exact ih h
  | choose _ _ ih => intro e2 s2 h2; cases h2 with | choose _ h => exact ih h
  | os _ ih => intro e2 s2 h2; cases h2 with | os h => exact ih h
  | handled _ ih => intro e2 s2 h2; cases h2 with | handled h => exact ih h
  | genState g _ ih =>
    intro e2 s2 h2
    cases h2 with
    | genState g2 h =>
      rw [g] at g2
      cases g2
      exact ih h
  | stack _ ih => intro e2 s2 h2; cases h2 with | stack h => exact ih h
  | thread _ ih => intro e2 s2 h2; cases h2 with | thread h => exact ih h
  | newGen _ ih => intro e2 s2 h2; cases h2 with | newGen h => exact ih h
  | call _ _ ih1 ih2 =>
    intro e2 s2 h2
    cases h2 with
    | call a b =>
      obtain ⟨x, y⟩ := ih1 a
      cases x
      subst y
      exact ih2 b
    | callSusp a => exact nomatch (ih1 a).1
  | callSusp _ ih1 =>
    intro e2 s2 h2
    cases h2 with
    | call a b => exact nomatch (ih1 a).1
    | callSusp a =>
      obtain ⟨x, y⟩ := ih1 a
      cases x
      exact ⟨rfl, y⟩
  | resumeFresh g _ _ _ ih1 ih2 =>
    intro e2 s2 h2
    cases h2 with
    | resumeFresh g2 a _ b =>
      rw [g] at g2
      cases g2
      obtain ⟨x, y⟩ := ih1 a
      subst x y
      exact ih2 b
    | resumeSuspended g2 a _ b => rw [g] at g2; cases g2
    | resumeJustStarted g2 z b => exact (z rfl).elim
    | resumeRunning g2 b => rw [g] at g2; cases g2
    | resumeFinished g2 b => rw [g] at g2; cases g2
  | resumeSuspended g _ _ _ ih1 ih2 =>
    intro e2 s2 h2
    cases h2 with
    | resumeSuspended g2 a _ b =>
      rw [g] at g2
      cases g2
      obtain ⟨x, y⟩ := ih1 a
      subst x y
      exact ih2 b
    | resumeFresh g2 a _ b => rw [g] at g2; cases g2
    | resumeJustStarted g2 z b => rw [g] at g2; cases g2
    | resumeThrowFresh g2 b => rw [g] at g2; cases g2
    | resumeRunning g2 b => rw [g] at g2; cases g2
    | resumeFinished g2 b => rw [g] at g2; cases g2
  | resumeJustStarted g z _ ih =>
    intro e2 s2 h2
    cases h2 with
    | resumeFresh g2 a _ b => exact (z rfl).elim
    | resumeSuspended g2 a _ b => rw [g] at g2; cases g2
    | resumeJustStarted g2 z b => exact ih b
    | resumeRunning g2 b => rw [g] at g2; cases g2
    | resumeFinished g2 b => rw [g] at g2; cases g2
  | resumeThrowFresh g _ ih =>
    intro e2 s2 h2
    cases h2 with
    | resumeSuspended g2 a _ b => rw [g] at g2; cases g2
    | resumeThrowFresh g2 b => exact ih b
    | resumeRunning g2 b => rw [g] at g2; cases g2
    | resumeFinished g2 b => rw [g] at g2; cases g2
  | resumeRunning g _ ih =>
    intro e2 s2 h2
    cases h2 with
    | resumeFresh g2 a _ b => rw [g] at g2; cases g2
    | resumeSuspended g2 a _ b => rw [g] at g2; cases g2
    | resumeJustStarted g2 z b => rw [g] at g2; cases g2
    | resumeThrowFresh g2 b => rw [g] at g2; cases g2
    | resumeRunning g2 b => exact ih b
    | resumeFinished g2 b => rw [g] at g2; cases g2
  | resumeFinished g _ ih =>
    intro e2 s2 h2
    cases h2 with
    | resumeFresh g2 a _ b => rw [g] at g2; cases g2
    | resumeSuspended g2 a _ b => rw [g] at g2; cases g2
    | resumeJustStarted g2 z b => rw [g] at g2; cases g2
    | resumeThrowFresh g2 b => rw [g] at g2; cases g2
    | resumeRunning g2 b => rw [g] at g2; cases g2
    | resumeFinished g2 b => exact ih b
  | segRet _ _ ih1 ih2 =>
    intro e2 s2 h2
    cases h2 with
    | segRet a b =>
      obtain ⟨x, y⟩ := ih1 a
      cases x
      subst y
      exact ih2 b
    | segSuspOut z a => exact nomatch (ih1 a).1
    | segSuspGen z a _ b => exact nomatch (ih1 a).1
  | segGen _ _ ih1 ih2 =>
    intro e2 s2 h2
    cases h2 with
    | segGen a b =>
      obtain ⟨x, y⟩ := ih1 a
      cases x
      subst y
      exact ih2 b
    | segSuspOut z a => exact nomatch (ih1 a).1
    | segSuspGen z a _ b => exact nomatch (ih1 a).1
  | segSuspOut z _ ih1 =>
    intro e2 s2 h2
    cases h2 with
    | segRet a b => exact nomatch (ih1 a).1
    | segGen a b => exact nomatch (ih1 a).1
    | segSuspOut z a =>
      obtain ⟨x, y⟩ := ih1 a
      cases x
      exact ⟨rfl, y⟩
    | segSuspGen z2 a _ b => rw [z] at z2; cases z2
  | segSuspGen z _ _ _ ih1 ih2 =>
    intro e2 s2 h2
    cases h2 with
    | segRet a b => exact nomatch (ih1 a).1
    | segGen a b => exact nomatch (ih1 a).1
    | segSuspOut z2 a => rw [z] at z2; cases z2
    | segSuspGen z2 a _ b =>
      rw [z] at z2
      cases z2
      obtain ⟨x, y⟩ := ih1 a
      cases x
      subst y
      exact ih2 b
theorem wakes_one {M : Model} {Γ : Ctx} {p : Pos} {g : Nat} {r : Resume} {s : Shared} {a b : GenResult} {x y : Shared} (h1 : Wakes M Γ p g r s a x) (h2 : Wakes M Γ p g r s b y) : a = b ∧ x = y := by
  unfold Wakes at h1 h2
  have two : ∀ {Γ' : Ctx} {p' : Pos} {t' : Sem Fin} {fs' : List Frame} {s' : Shared}, (∃ e₁ s₁, Runs M Γ' p' t' fs' s' e₁ s₁ ∧ e₁.quiet = true ∧ a = e₁.result ∧ x = s₁.setGen g e₁.genState) → (∃ e₁ s₁, Runs M Γ' p' t' fs' s' e₁ s₁ ∧ e₁.quiet = true ∧ b = e₁.result ∧ y = s₁.setGen g e₁.genState) → a = b ∧ x = y := by
    rintro Γ' p' t' fs' s' ⟨e1, s1, r1, _, k1, k2⟩ ⟨e2, s2, r2, _, k3, k4⟩
    obtain ⟨u, v⟩ := run_one r1 r2
    subst u v
    exact ⟨k1.trans k3.symm, k2.trans k4.symm⟩
  have one : ∀ {c : GenResult} {z : Shared}, (a = c ∧ x = z) → (b = c ∧ y = z) → a = b ∧ x = y := fun h1 h2 => ⟨h1.1.trans h2.1.symm, h1.2.trans h2.2.symm⟩
  cases hg : s.gens[g]? with
  | none => rw [hg] at h1; exact h1.elim
  | some st =>
    rw [hg] at h1 h2
    cases st with
    | fresh c =>
      cases r with
      | send v =>
        by_cases hv : v = .none
        · subst hv
          exact two h1 h2
        · dsimp only at h1 h2
          split at h1
          · rename_i e
            cases e
            exact (hv rfl).elim
          · split at h2
            · rename_i e
              cases e
              exact (hv rfl).elim
            · exact one h1 h2
            · rename_i e
              cases e
          · rename_i e
            cases e
      | throw v => exact one h1 h2
    | suspended k0 l0 c0 p0 fs cl => exact two h1 h2
    | running => exact one h1 h2
    | finished => exact one h1 h2
theorem wp_both {α : Type} {M : Model} {Γ : Ctx} {Q1 Q2 : α → Pos → Shared → Prop} {E1 E2 : Value → Pos → Shared → Prop} (t : Sem α) : ∀ {p : Pos} {s : Shared}, Sem.wp M Γ t Q1 E1 p s → Sem.wp M Γ t Q2 E2 p s → Sem.wp M Γ t (fun a p s => Q1 a p s ∧ Q2 a p s) (fun a p s => E1 a p s ∧ E2 a p s) p s := by
  induction t with
  | pure a => intro p s h1 h2; exact ⟨h1, h2⟩
  | raise a => intro p s h1 h2; exact ⟨h1, h2⟩
  | call c h g l k ih =>
    intro p s h1 h2
    obtain ⟨r, s', rn, q⟩ := h1
    obtain ⟨r2, s2, rn2, q2⟩ := h2
    obtain ⟨x, y⟩ := run_one rn rn2
    cases x
    subst y
    exact ⟨r, s', rn, ih r q q2⟩
  | resume g r l k ih =>
    intro p s h1 h2
    obtain ⟨a, s', rn, q⟩ := h1
    obtain ⟨b, s2, rn2, q2⟩ := h2
    obtain ⟨x, y⟩ := wakes_one rn rn2
    subst x y
    exact ⟨a, s', rn, ih a q q2⟩
  | load a q k ih =>
    intro p s h1 h2
    obtain ⟨o, e, q⟩ := h1
    obtain ⟨o2, e2, q2⟩ := h2
    rw [e] at e2
    cases e2
    exact ⟨o, e, ih o q q2⟩
  | genState g k ih =>
    intro p s h1 h2
    obtain ⟨o, e, q⟩ := h1
    obtain ⟨o2, e2, q2⟩ := h2
    rw [e] at e2
    cases e2
    exact ⟨o, e, ih _ q q2⟩
  | update a q f k ih => intro p s h1 h2; exact ⟨h1.1, ih _ h1.2 h2.2⟩
  | choose a n k ih => intro p s h1 h2; exact ⟨h1.1, ih _ h1.2 h2.2⟩
  | unsupported _ => intro p s h1 _; exact False.elim h1
  | finish _ => intro p s h1 _; exact False.elim h1
  | rule _ k ih => intro p s h1 h2; exact ih _ h1 h2
  | «at» _ k ih => intro p s h1 h2; exact ih _ h1 h2
  | loadIfAlive _ k ih => intro p s h1 h2; exact ih _ h1 h2
  | point _ k ih => intro p s h1 h2; exact ih _ h1 h2
  | alloc _ k ih => intro p s h1 h2; exact ih _ h1 h2
  | fresh k ih => intro p s h1 h2; exact ih _ h1 h2
  | ask k ih => intro p s h1 h2; exact ih _ h1 h2
  | os _ _ k ih => intro p s h1 h2; exact ih _ h1 h2
  | handled _ k ih => intro p s h1 h2; exact ih _ h1 h2
  | newGen _ k ih => intro p s h1 h2; exact ih _ h1 h2
  | stack k ih => intro p s h1 h2; exact ih _ h1 h2
  | thread k ih => intro p s h1 h2; exact ih _ h1 h2
  | _ => intro p s h1 _; exact False.elim h1
/-- two things shown of one piece are shown together -/
theorem wpAny_both {α : Type} {M : Model} {A : Around} {t : Sem α} {Q1 Q2 : α → Shared → Prop} {E1 E2 : Value → Shared → Prop} {s : Shared} (h1 : wpAny M A t Q1 E1 s) (h2 : wpAny M A t Q2 E2 s) : wpAny M A t (fun a s => Q1 a s ∧ Q2 a s) (fun a s => E1 a s ∧ E2 a s) s :=
  fun Γ p i => wp_both t (h1 Γ p i) (h2 Γ p i)
end Tw

set_option Elab.async false
set_option linter.all false
set_option maxRecDepth 100000
namespace Tw
open PySem PySem.Spec PyProof.Rows L2
/-! what stands in an exception beside its trace: it is raised behind no other -/
/-- the exception at e was raised while none was handled -/
def Alone (e : Addr) (h : Heap) : Prop := ∃ oe vs, h.get? e = some oe ∧ oe.data = .fields vs ∧ vs[2]? = some .none
section
variable {M : Model} {A : Around} {E : Value → Shared → Prop} {s : Shared} {e : Addr}
theorem Alone.put {h : Heap} {i : Nat} {x : Value} (k : Alone e h) (hi : i ≠ 2) : Alone e (h.update e (Obj.mapFields (·.setIfInBounds i x))) := by
  obtain ⟨oe, vs, he, hd, h2⟩ := k
  have d2 := Obj.data_mapFields hd (·.setIfInBounds i x)
  exact ⟨_, _, Heap.get?_update_self _ he (Obj.isFreed_of_fields d2), d2, by rw [Array.getElem?_setIfInBounds_ne hi]; exact h2⟩
theorem Alone.other {h : Heap} {b : Addr} {f : Obj → Obj} (k : Alone e h) (hb : b ≠ e) : Alone e (h.update b f) := by
  obtain ⟨oe, vs, he, hd, h2⟩ := k
  exact ⟨oe, vs, (Heap.get?_update_other _ _ hb).trans he, hd, h2⟩
theorem Alone.push {h : Heap} {o : Obj} (k : Alone e h) : Alone e (h.push o) := by
  obtain ⟨oe, vs, he, hd, h2⟩ := k
  exact ⟨oe, vs, Heap.get?_push_of_some _ he, hd, h2⟩
theorem Alone.frames {h h' : Heap} {base : Heap} {l : List Env} (k : Alone e h) (hl : h.FunFrames base l) (hs : Heap.SlotsOnly (l.filterMap (·.frame)) h h') : Alone e h' := by
  obtain ⟨oe, vs, he, hd, h2⟩ := k
  have hne : e ∉ l.filterMap (·.frame) := fun hm => by
    obtain ⟨_, o, ho, hnf⟩ := hl.mem hm
    rw [he] at ho
    cases ho
    exact hnf vs hd
  exact ⟨oe, vs, (hs.2.1 e hne).trans he, hd, h2⟩
/-- and its trace has an entry -/
def AloneT (e : Addr) (h : Heap) : Prop := Alone e h ∧ ∃ oe vs T oT ts, h.get? e = some oe ∧ oe.data = .fields vs ∧ vs[1]? = some (.ref T) ∧ T ≠ e ∧ h.get? T = some oT ∧ oT.data = .fields ts ∧ 3 < ts.size
/-- a new entry of the trace, laid behind head -/
theorem entry_alone {base : Heap} {env : Env} {outer : List Env} {L : Addr} {head : Value} {had : Bool} (hfr : A.frames = some (env :: outer)) (hf : env.frame = some L) (hl : s.heap.FunFrames base (env :: outer)) (k : Alone e s.heap) :
    wpAny M A (do let a ← frameOf env; let pl ← entryPlaceOf L had; let b ← EntryCells.newEntry head a .none (rawInt L) .none pl; setField (.ref e) 1 b) (fun _ s' => AloneT e s'.heap) E s := by
  refine wpAny_bind (wpAny_frameOf_fun hfr hl hf fun h1 s1 => ?_)
  have k1 := k.frames hl s1
  refine wpAny_bind (wpAny_entryPlaceOf fun pl hp => ?_)
  unfold EntryCells.newEntry newFields
  refine wpAny_bind (wpAny_newObj_type ?_ (hp.sizeOk5 _ _ _ _ _))
  have k2 := k1.push (o := { cls := .type "traceback", dict := none, data := .fields ([head, .ref L, .none, rawInt L, .none] ++ (if pl.isEmpty then List.replicate 6 Value.none else pl)).toArray })
  obtain ⟨_, _, he1, _, _⟩ := id k1
  have hne : h1.objs.size ≠ e := Nat.ne_of_gt (Heap.lt_size he1)
  obtain ⟨oe, vs, he, hd, h2⟩ := id k2
  have hz : 1 < vs.size := by
    have := (Array.getElem?_eq_some_iff.mp h2).1
    omega
  refine wpAny_setField he hd hz ⟨k2.put (by decide), _, _, h1.objs.size, _, _, Heap.get?_update_self _ he (Obj.isFreed_of_fields (Obj.data_mapFields hd _)), Obj.data_mapFields hd _, by simp [hz], hne, (Heap.get?_update_other _ _ (Ne.symm hne)).trans (Heap.get?_push_size h1 rfl), rfl, ?_⟩
  simp only [List.size_toArray, List.length_append, List.length_cons, List.length_nil]
  omega
theorem note_alone {base : Heap} {env : Env} {outer : List Env} {L : Addr} (hfr : A.frames = some (env :: outer)) (hf : env.frame = some L) (hl : s.heap.FunFrames base (env :: outer)) (k : AloneT e s.heap) :
    wpAny M A (noteFrame (.ref e) env) (fun _ s' => AloneT e s'.heap) E s := by
  obtain ⟨ka, oe, vs, T, oT, ts, he, hd, h1, hTe, hT, hdT, h3⟩ := id k
  unfold noteFrame
  simp only [hf]
  refine wpAny_bind (wpAny_field he hd h1 ?_)
  rw [if_pos (show (Value.ref T != Value.none) = true from by simp)]
  refine wpAny_bind (wpAny_field hT hdT (Array.getElem?_eq_some_iff.mpr ⟨h3, rfl⟩) ?_)
  by_cases c : (ts[3] == rawInt L) = true
  · rw [if_pos c]
    exact wpAny_pure k
  · rw [if_neg c]
    refine wpAny_bind (wpAny_setField hT hdT h3 ?_)
    refine entry_alone (s := { s with heap := _ }) hfr hf (hl.of_keeps fun b o hb hn => ⟨o, ?_, rfl⟩) (ka.other hTe)
    have : T ≠ b := fun z => by
      rw [← z, hT] at hb
      cases hb
      exact hn ts hdT
    exact (Heap.get?_update_other _ _ this).trans hb
theorem first_alone {base : Heap} {env : Env} {outer : List Env} {L : Addr} {oe : Obj} {vs : Array Value} (hfr : A.frames = some (env :: outer)) (hf : env.frame = some L) (hl : s.heap.FunFrames base (env :: outer)) (he : s.heap.get? e = some oe) (hd : oe.data = .fields vs) (h1 : vs[1]? = some .none) (k : Alone e s.heap) :
    wpAny M A (noteFrame (.ref e) env) (fun _ s' => AloneT e s'.heap) E s := by
  unfold noteFrame
  simp only [hf]
  refine wpAny_bind (wpAny_field he hd h1 ?_)
  rw [if_neg (by decide)]
  exact entry_alone hfr hf hl k
theorem flight_alone {f : Option Addr} (k : AloneT e s.heap) : wpAny M A (setFlight (.ref e) f) (fun _ s' => AloneT e s'.heap) E s := by
  obtain ⟨ka, oe, vs, T, oT, ts, he, hd, h1, hTe, hT, hdT, h3⟩ := id k
  unfold setFlight
  refine wpAny_bind (wpAny_field he hd h1 ?_)
  rw [if_pos (show (Value.ref T != Value.none) = true from by simp)]
  have d2 := Obj.data_mapFields hdT (·.setIfInBounds 3 (f.elim Value.none fun f => rawInt f))
  exact wpAny_setField hT hdT h3 ⟨ka.other hTe, oe, vs, T, _, _, (Heap.get?_update_other _ _ hTe).trans he, hd, h1, hTe, Heap.get?_update_self _ hT (Obj.isFreed_of_fields d2), d2, by simpa using h3⟩
theorem leaving_alone {base : Heap} {env : Env} {outer : List Env} {L : Addr} (hfr : A.frames = some (env :: outer)) (hf : env.frame = some L) (hl : s.heap.FunFrames base (env :: outer)) (k : AloneT e s.heap) :
    wpAny M A (leaving env (.ref e)) (fun _ s' => AloneT e s'.heap) E s := by
  unfold leaving
  exact wpAny_bind (wpAny_mono (note_alone hfr hf hl k) (fun _ _ k1 => flight_alone k1) fun _ _ z => z)
theorem leavingM_alone {base : Heap} {env : Env} {outer : List Env} {L : Addr} {oe : Obj} {vs : Array Value} (hfr : A.frames = some (env :: outer)) (hf : env.frame = some L) (hl : s.heap.FunFrames base (env :: outer)) (he : s.heap.get? e = some oe) (hd : oe.data = .fields vs) (h1 : vs[1]? = some .none) (k : Alone e s.heap) :
    wpAny M A (leaving env (.ref e)) (fun _ s' => AloneT e s'.heap) E s := by
  unfold leaving
  exact wpAny_bind (wpAny_mono (first_alone hfr hf hl he hd h1 k) (fun _ _ k1 => flight_alone k1) fun _ _ z => z)
end
end Tw

set_option Elab.async false
set_option linter.all false
set_option maxRecDepth 100000
namespace L2
open PySem PySem.Spec PyProof.Rows
/-! Exceptions: raised by own classes under ValueError, passed on through defs, caught by a name. -/
abbrev bmVE : List Value := [.type "ValueError", .type "Exception", .type "BaseException", .type "object"]
/-- an own exception class of the text, named x -/
structure ExcK (K : PySem.W.Frag) (C : Addr) : Prop where
  exc : PySem.W.excIn K C bmVE "ValueError.__new__" = true
  ga : PySem.W.findIn K (.ref C) "__getattribute__" = some (some (.builtin "BaseException.__getattribute__"))
  gt : PySem.W.findIn K (.ref C) "__getattr__" = some none
  ca : PySem.W.findIn K (.ref C) "__class__" = some (some (.builtin "object.__class__"))
  cg : PySem.W.specialIn K (.builtin "object.__class__") "__get__" = some (some (.builtin "getset_descriptor.__get__"))
  tk : PySem.W.takesIn K (.builtin "object.__class__") = some true
  mo : PySem.W.mroIn K C (.type "object") = some true
  mb : PySem.W.mroIn K C (.type "BaseException") = some true
structure ExcC (K : PySem.W.Frag) (mg : Str → Option Value) (x : Str) (C : Addr) : Prop where
  at_ : mg x = some (.ref C)
  k : ExcK K C
theorem ExcK.obj {K : PySem.W.Frag} {C : Addr} {h : Heap} (c : ExcK K C) (X : K.In h) : ∃ bm N nm q bs hdct sn sub ab col dd k0 k1 k2 k3 k5 mN, h.get? C = some (excClassObj nm q C N bs bm hdct sn sub ab col dd k0 k1 k2 k3 k5 "ValueError.__new__") ∧ h.Ns N mN ∧ mN "__init__" = none ∧ OwnTail h bmVE bm := by
  have q := c.exc
  unfold PySem.W.excIn at q
  split at q
  · rename_i dd cd sl ho
    split at q
    · rename_i C' bm k0 k1 k2 k3 n k5 hm hs
      simp only [Bool.and_eq_true, beq_iff_eq, Bool.not_eq_true'] at q
      obtain ⟨⟨⟨⟨⟨rfl, rfl⟩, hdel⟩, ht⟩, hok⟩, hni⟩ := q
      obtain ⟨nm, bs, mro, ns, qn, hd, sn, sub, ab, col, del⟩ := cd
      dsimp only at hm hdel hok hni
      subst hm hdel
      have hsl : sl = #[k0, k1, k2, k3, some (.builtin "ValueError.__new__"), k5] := by
        obtain ⟨l⟩ := sl
        simp only at hs
        rw [hs]
      subst hsl
      exact ⟨bm, ns, nm, qn, bs, hd, sn, sub, ab, col, dd, k0, k1, k2, k3, k5, _, X _ _ ho, .of_isNs (PySem.W.isNs_of_in X hok), PySem.W.nsMap_none_of_in X hok hni, PySem.W.tail_of_in X ht⟩
    · cases q
  · cases q
theorem ObjOk.there {P : Program} {w : World} {H : Hp} {h : Heap} {b : Addr} {u : HO} (k : ObjOk P w H h b u) : ∃ o, h.get? b = some o := by
  revert k
  cases u with
  | lst xs => rintro ⟨_, its, n, _, z⟩; exact ⟨_, z⟩
  | tup xs => rintro ⟨_, its, _, o, z, _⟩; exact ⟨_, z⟩
  | dK kvs => rintro ⟨_, _, vs, _, o, es, ep, z, _⟩; exact ⟨_, z⟩
  | dT kvs => rintro ⟨_, _, vs, _, o, es, ep, z, _⟩; exact ⟨_, z⟩
  | set S n => rintro ⟨o, es, ep, t, z, _⟩; exact ⟨_, z⟩
  | ins C dx fs => rintro ⟨_, _, _, z, _⟩; exact ⟨_, z⟩
  | own y => rintro ⟨o, z⟩; exact ⟨_, z⟩
  | xd fs => rintro ⟨mA, ⟨od, es, ep, z, _⟩, _⟩; exact ⟨_, z⟩
  | rng lo hi => rintro ⟨t, u, v, z⟩; exact ⟨_, z⟩
  | frz ob u => rintro ⟨z, _⟩; exact ⟨_, z⟩
  | tbl ps => intro z; exact ⟨_, z⟩
  | met f y => intro z; exact ⟨_, z⟩
  | ext φ => rintro ⟨_, ⟨o, z⟩, _⟩; exact ⟨_, z⟩
/-- an exception in flight behind a call: B holds what stood at the raise, the frames left out -/
structure Flown (P : Program) (w : World) (outer : List Env) (H : Hp) (s : Shared) (E : XK) (ea : Addr) (cls : Value) (H' : Hp) (B : Heap) (s' : Shared) : Prop where
  os : s'.os = s.os
  bare : AllBare s'.gens
  un : Un (frs outer) [] H H' s.heap s'.heap
  hok : HOk P w H' s'.heap
  fly : ∃ a0, Heap.FlyingW B outer ea cls a0 s'.heap
  old : ∀ b o, s.heap.get? b = some o → b ∉ frs outer → ∃ o', B.get? b = some o' ∧ (H b = none → o' = o)
  trk : ∀ b u o, H' b = some u → s'.heap.get? b = some o → B.get? b = some o
  want : E cls none H'
  al : Tw.AloneT ea s'.heap ∨ E cls (some 0) H'
def CXE (P : Program) (w : World) : CXT := fun outer H s E e s' => ∃ (ea : Addr) (cls : Value) (H' : Hp) (B : Heap), e = .ref ea ∧ Flown P w outer H s E ea cls H' B s'
section
variable {P : Program} {w : World} {X : Cx} {pins : List (Addr × Obj)} {σ : St} {H H' : Hp} {s s' : Shared} {E : XK} {ea : Addr} {cls : Value} {B : Heap} {outer : List Env}
theorem Flown.some_of (F : Flown P w outer H s E ea cls H' B s') {b : Addr} {u : HO} (e : H' b = some u) : ∃ o, s'.heap.get? b = some o := (F.hok b u e).there
/-- the exception goes through another heap that keeps B -/
theorem Flown.hokTo (F : Flown P w outer H s E ea cls H' B s') {h' : Heap} (k : B.StaysIn h') : HOk P w H' h' := fun b u e => by
  refine (F.hok b u e).stay (fun c v hc q => ?_) (fun _ q => q) fun _ _ q => q
  rcases hc with r | r
  · subst r; exact k _ _ (F.trk _ _ _ e q)
  · exact k _ _ (F.trk _ _ _ r q)
end
/-- a def's body lets its callee's exceptions through -/
theorem passE {P : Program} {w : World} {K : PySem.W.Frag} {mg : Str → Option Value} {base : Heap} {N : List Str} {qual : Str} {scope : Scope} {f : Addr} {cd : Value} {A : Around} {outer : List Env} {s : Shared} {H : Hp} {E : XK} :
    Passes (CXE P w) (cxOf (CXE P w) P w K mg base N qual scope f cd A outer s H E) E := by
  intro pins σ H1 s1 e s' I h
  obtain ⟨ea, cls, H', B, rfl, F⟩ := h
  have F' : Flown P w (envOfC qual scope s.heap.objs.size f cd :: outer) H1 s1 E ea cls H' B s' := F
  obtain ⟨a0, fl⟩ := F'.fly
  have hfr := I.ok.frames
  show wpAny _ _ (leaving _ _) _ _ _
  have on : ∀ E1 : Value → Shared → Prop, wpAny (model P w) (A.deeper (envOfC qual scope s.heap.objs.size f cd)) (leaving (envOfC qual scope s.heap.objs.size f cd) (.ref ea)) (fun _ s2 => (Tw.AloneT ea s2.heap ∨ E cls (some 0) H') ∧ ∃ h', s2 = { s' with heap := h' } ∧ Heap.FlyingW B outer ea cls a0 h' ∧ s'.heap.UpToSlots h') E1 s' := fun E1 => by
    have one : wpAny (model P w) (A.deeper (envOfC qual scope s.heap.objs.size f cd)) (leaving (envOfC qual scope s.heap.objs.size f cd) (.ref ea)) (fun _ s2 => ∃ h', s2 = { s' with heap := h' } ∧ Heap.FlyingW B outer ea cls a0 h' ∧ s'.heap.UpToSlots h') E1 s' := wpAny_leaves_onW (outer := outer) hfr rfl fl fun h' fl' up => ⟨h', rfl, fl', up⟩
    rcases F'.al with ka | ka
    · exact wpAny_mono (Tw.wpAny_both (Tw.leaving_alone (E := E1) hfr rfl fl.2.2.1 ka) one) (fun _ _ z => ⟨.inl z.1, z.2⟩) fun _ _ z => z.1
    · exact wpAny_mono one (fun _ _ z => ⟨.inr ka, z⟩) fun _ _ z => z
  refine wpAny_mono (on _) (fun _ s2 ⟨ka, h', e2, fl', up⟩ => ?_) fun _ _ z => z
  subst e2
  have frs2 : ∀ b, b ∈ frs (envOfC qual scope s.heap.objs.size f cd :: outer) → b = s.heap.objs.size ∨ b ∈ frs outer := fun b hb => by
    obtain ⟨env, he, hf⟩ := List.mem_filterMap.mp hb
    rcases List.mem_cons.mp he with rfl | he
    · exact .inl (Option.some.inj hf).symm
    · exact .inr (List.mem_filterMap.mpr ⟨env, he, hf⟩)
  have notin : ∀ b o, s.heap.get? b = some o → b ∉ frs outer → b ∉ frs (envOfC qual scope s.heap.objs.size f cd :: outer) := fun b o e hb z => by
    rcases frs2 b z with r | r
    · have := Heap.lt_size e
      rw [r] at this
      exact Nat.lt_irrefl _ this
    · exact hb r
  have base0 : Un (frs outer) [] H H1 s.heap s1.heap := I.base
  obtain ⟨_, _, frm, _⟩ := id fl
  have frm' : s'.heap.FunFrames B outer := frm.2.2
  refine ⟨ea, cls, H', B, rfl, F'.os.trans I.os, F'.bare, ⟨fun b o e n hb _ => ?_, fun b o e n hb _ => ?_, fun b o e n _ => ?_, fun b o e _ => ?_, fun b xs e => F'.un.tups b xs (base0.tups b xs e), fun b o u e => F'.un.frzs b o u (base0.frzs b o u e), fun b ps e => ?_⟩, F'.hokTo fl'.1, ⟨a0, fl'⟩, fun b o e hb => ?_, fun b u o e q => ?_, F'.want, ka⟩
  · obtain ⟨o', q, z⟩ := F'.old b o (base0.keep b o e n hb (by simp)) (notin b o e hb)
    rw [z (base0.free b o e n (by simp))] at q
    exact fl'.1 _ _ q
  · obtain ⟨sl, q⟩ := base0.slot b o e n hb (by simp)
    obtain ⟨sl2, q2⟩ := F'.un.any (b := b) q (base0.free b o e n (by simp)) (by simp)
    obtain ⟨_, o3, q3, d3⟩ := frm'.mem hb
    rw [q2] at q3; cases q3
    obtain ⟨sl', q'⟩ := up b _ q2 d3
    exact ⟨sl', q'⟩
  · obtain ⟨o1, q1⟩ := base0.there b o e (by simp)
    exact F'.un.free b o1 q1 (base0.free b o e n (by simp)) (by simp)
  · obtain ⟨o1, q1⟩ := base0.there b o e (by simp)
    by_cases hb : b ∈ frs outer
    · obtain ⟨_, o3, q3, d3⟩ := frm'.mem hb
      obtain ⟨sl', q'⟩ := up b _ q3 d3
      exact ⟨_, q'⟩
    · obtain ⟨o', q, _⟩ := F'.old b o1 q1 (notin b o e hb)
      exact ⟨o', fl'.1 _ _ q⟩
  · obtain ⟨m1, e1⟩ := base0.tbls b ps e
    obtain ⟨m2, e2⟩ := F'.un.tbls b _ e1
    exact ⟨m1 ++ m2, by rw [e2, Array.append_assoc]⟩
  · obtain ⟨o1, q1⟩ := base0.there b o e (by simp)
    obtain ⟨o', q, z⟩ := F'.old b o1 q1 (notin b o e hb)
    refine ⟨o', q, fun n => ?_⟩
    have q1' := base0.keep b o e n hb (by simp)
    rw [q1'] at q1; cases q1
    exact z (base0.free b o e n (by simp))
  · obtain ⟨o1, q1⟩ := F'.some_of e
    have q2 := F'.trk b u o1 e q1
    have q3 := fl'.1 _ _ q2
    rw [q3] at q; cases q
    exact q2
/-- an exception newly made, its trace empty -/
structure MadeX (h h' : Heap) (e : Addr) (cls : Value) : Prop where
  keeps : ∀ b o, h.get? b = some o → h'.get? b = some o
  new : h.get? e = none
  there : ∃ oe vs a0, h'.get? e = some oe ∧ oe.cls = cls ∧ oe.data = .fields vs ∧ vs[0]? = some a0 ∧ vs[1]? = some .none
theorem MadeX.of {h h' : Heap} {e : Addr} {cls : Value} {args : List Value} (x : Heap.MadeExcOf h h' e cls args) : MadeX h h' e cls ∧ Tw.Alone e h' := by
  obtain ⟨t, he, _, _⟩ := x.there
  exact ⟨⟨x.keeps, x.new, _, _, _, he, rfl, rfl, rfl, rfl⟩, _, _, he, rfl, rfl⟩
/-- raising: what a body's context must let through -/
def RaisesX (X : Cx) (C : Addr) (E : XK) : Prop := ∀ (pins : List (Addr × Obj)) (σ : St) (H : Hp) (s : Shared) (h' : Heap) (e : Addr), Inv X pins σ H s → MadeX s.heap h' e (.ref C) → E (.ref C) none H → (Tw.Alone e h' ∨ E (.ref C) (some 0) H) → X.xe (.ref e) { s with heap := h' }
def Raises (X : Cx) (C : Addr) (E : XK) : Prop := ∀ (pins : List (Addr × Obj)) (σ : St) (H : Hp) (s : Shared) (h' : Heap) (e : Addr) (args : List Value), Inv X pins σ H s → Heap.MadeExcOf s.heap h' e (.ref C) args → E (.ref C) none H → X.xe (.ref e) { s with heap := h' }
theorem raisesX {P : Program} {w : World} {K : PySem.W.Frag} {mg : Str → Option Value} {base : Heap} {N : List Str} {qual : Str} {scope : Scope} {f C : Addr} {cd : Value} {A : Around} {outer : List Env} {s : Shared} {H : Hp} {E : XK} :
    RaisesX (cxOf (CXE P w) P w K mg base N qual scope f cd A outer s H E) C E := by
  intro pins σ H1 s1 h1 e I hx hE hA
  have hfr := I.ok.frames
  have st := I.stack
  show wpAny _ _ (leaving _ _) _ _ _
  have hin : ∀ env ∈ (envOfC qual scope s.heap.objs.size f cd :: outer), ∀ b, env.frame = some b → b ∈ frs (envOfC qual scope s.heap.objs.size f cd :: outer) := fun env he b hb => List.mem_filterMap.mpr ⟨env, he, hb⟩
  have hid : ∀ {b o}, s1.heap.get? b = some o → b ∉ frs (envOfC qual scope s.heap.objs.size f cd :: outer) → (PySem.W.hideAll s1.heap (frs (envOfC qual scope s.heap.objs.size f cd :: outer))).get? b = some o := fun q nm => PySem.W.hideAll_get _ q nm
  obtain ⟨oe, vs, a0, he, hcl, hd, h0, h1'⟩ := hx.there
  have fr1 : h1.FunFrames (PySem.W.hideAll s1.heap (frs (envOfC qual scope s.heap.objs.size f cd :: outer))) (envOfC qual scope s.heap.objs.size f cd :: outer) := (PySem.W.funFrames_hide st hin).of_keeps fun b o hb _ => ⟨o, hx.keeps b o hb, rfl⟩
  have hkb : (PySem.W.hideAll s1.heap (frs (envOfC qual scope s.heap.objs.size f cd :: outer))).StaysIn h1 := fun b o q => hx.keeps b o (PySem.W.of_hideAll _ q)
  have hnw : (PySem.W.hideAll s1.heap (frs (envOfC qual scope s.heap.objs.size f cd :: outer))).get? e = none := by
    cases q : (PySem.W.hideAll s1.heap (frs (envOfC qual scope s.heap.objs.size f cd :: outer))).get? e with
    | none => rfl
    | some o' =>
      have := PySem.W.of_hideAll _ q
      rw [hx.new] at this
      cases this
  have on : ∀ E1 : Value → Shared → Prop, wpAny (model P w) (A.deeper (envOfC qual scope s.heap.objs.size f cd)) (leaving (envOfC qual scope s.heap.objs.size f cd) (.ref e)) (fun _ s2 => (Tw.AloneT e s2.heap ∨ E (.ref C) (some 0) H1) ∧ ∃ h', s2 = { s1 with heap := h' } ∧ Heap.FlyingW (PySem.W.hideAll s1.heap (frs (envOfC qual scope s.heap.objs.size f cd :: outer))) outer e (.ref C) a0 h' ∧ h1.UpToSlots h') E1 { s1 with heap := h1 } := fun E1 => by
    have one : wpAny (model P w) (A.deeper (envOfC qual scope s.heap.objs.size f cd)) (leaving (envOfC qual scope s.heap.objs.size f cd) (.ref e)) (fun _ s2 => ∃ h', s2 = { s1 with heap := h' } ∧ Heap.FlyingW (PySem.W.hideAll s1.heap (frs (envOfC qual scope s.heap.objs.size f cd :: outer))) outer e (.ref C) a0 h' ∧ h1.UpToSlots h') E1 { s1 with heap := h1 } :=
      wpAny_leaving_firstW (s := { s1 with heap := h1 }) (a0 := a0) hfr fr1 rfl he hkb hnw hd h1' h0 fun h' hL => by
        obtain ⟨k1, ⟨_, _, k2⟩, k3, k4⟩ := hL
        rw [hcl] at k3
        exact ⟨h', rfl, ⟨k1, hnw, k2, k3⟩, k4⟩
    rcases hA with ka | ka
    · exact wpAny_mono (Tw.wpAny_both (Tw.leavingM_alone (s := { s1 with heap := h1 }) (E := E1) hfr rfl fr1 he hd h1' ka) one) (fun _ _ z => ⟨.inl z.1, z.2⟩) fun _ _ z => z.1
    · exact wpAny_mono one (fun _ _ z => ⟨.inr ka, z⟩) fun _ _ z => z
  refine wpAny_mono (on _) (fun _ s2 ⟨ka, h', e2, fl, up⟩ => ?_) fun _ _ z => z
  subst e2
  have base0 : Un (frs outer) [] H H1 s.heap s1.heap := I.base
  have notin : ∀ b o, s.heap.get? b = some o → b ∉ frs outer → b ∉ frs (envOfC qual scope s.heap.objs.size f cd :: outer) := fun b o e hb z => by
    obtain ⟨env, he, hf⟩ := List.mem_filterMap.mp z
    rcases List.mem_cons.mp he with rfl | he
    · have h1 := Heap.lt_size e
      have z2 : s.heap.objs.size = b := Option.some.inj hf
      rw [← z2] at h1
      exact Nat.lt_irrefl _ h1
    · exact hb (List.mem_filterMap.mpr ⟨env, he, hf⟩)
  have trkd : ∀ b u, H1 b = some u → b ∉ frs (envOfC qual scope s.heap.objs.size f cd :: outer) := fun b u e z => by
    rw [I.stkFree b z] at e; cases e
  obtain ⟨_, _, frm, _⟩ := id fl
  refine ⟨e, .ref C, H1, _, rfl, I.os, I.bare, ⟨fun b o e n hb _ => ?_, fun b o e n hb _ => ?_, fun b o e n _ => base0.free b o e n (by simp), fun b o e _ => ?_, base0.tups, base0.frzs, base0.tbls⟩, fun b u e => ?_, ⟨_, fl⟩, fun b o e hb => ?_, fun b u o e q => ?_, hE, ka⟩
  · exact fl.1 _ _ (hid (base0.keep b o e n hb (by simp)) (notin b o e hb))
  · obtain ⟨sl, q⟩ := base0.slot b o e n hb (by simp)
    obtain ⟨_, o3, q3, d3⟩ := st.2.2.mem hb
    rw [q] at q3; cases q3
    obtain ⟨sl', q'⟩ := up b _ (hx.keeps _ _ q) d3
    exact ⟨sl', q'⟩
  · obtain ⟨o1, q1⟩ := base0.there b o e (by simp)
    by_cases hb : b ∈ frs outer
    · obtain ⟨_, o3, q3, d3⟩ := frm.mem hb
      exact ⟨_, q3⟩
    · exact ⟨o1, fl.1 _ _ (hid q1 (notin b o e hb))⟩
  · refine (I.hok b u e).stay (fun c v hc q => ?_) (fun _ q => q) fun _ _ q => q
    rcases hc with r | r
    · subst r; exact fl.1 _ _ (hid q (trkd _ _ e))
    · exact fl.1 _ _ (hid q (trkd _ _ r))
  · obtain ⟨o1, q1⟩ := base0.there b o e (by simp)
    refine ⟨o1, hid q1 (notin b o e hb), fun n => ?_⟩
    have q2 := base0.keep b o e n hb (by simp)
    rw [q1] at q2; cases q2; rfl
  · obtain ⟨o1, q1⟩ := (I.hok b u e).there
    have q2 := hid q1 (trkd _ _ e)
    have q3 := fl.1 _ _ q2
    rw [q3] at q; cases q
    exact q2

theorem raisesE {P : Program} {w : World} {K : PySem.W.Frag} {mg : Str → Option Value} {base : Heap} {N : List Str} {qual : Str} {scope : Scope} {f C : Addr} {cd : Value} {A : Around} {outer : List Env} {s : Shared} {H : Hp} {E : XK} :
    Raises (cxOf (CXE P w) P w K mg base N qual scope f cd A outer s H E) C E := fun pins σ H1 s1 h1 e args I hx hE => raisesX pins σ H1 s1 h1 e I (MadeX.of hx).1 hE (.inl (MadeX.of hx).2)
section
variable {X : Cx} {x : Str} {C : Addr} {E : XK} {np cpos pos : Pos} {e : Expr} {es : List Expr} {t : TA}
def tRaise (C : Addr) (E : XK) (t : TA) : TS := fun _ σ H => t σ H fun vs H1 => vs.length ≤ 1000 ∧ E (.ref C) none H1
/-- raise C(..) -/
theorem ps_raise (c : ExcC X.K X.mg x C) (hr : Raises X C E) (ha : PA X (e :: es) t) (hc : X.calm = true) (hg : Gl X x := by rfl) (hd : (x == ("__debug__" : Str)) = false := by decide)
    (he : starEach (e :: es) X.env = (false, eval e X.env) :: starEach es X.env := by rfl) (hpl : (backTo cpos (starEach es X.env)).any (·.1) = false := by rfl) :
    PS X (.Raise (some (.Call (.Name x np) (e :: es) [] cpos)) none pos) (tRaise C E t) := by
  intro pins s σ H D I h
  obtain ⟨bm, N, nm, q, bs, hdct, sn, sub, ab, col, dd, k0, k1, k2, k3, k5, mN, hC, hN, hni, T⟩ := c.k.obj I.ok.mod.kin
  refine wpAny_Raise_call_subT (C := C) (nm := nm) (q := q) (N := N) (bs := bs) (bm := bm) (hdct := hdct) (sn := sn) (sub := sub) (ab := ab) (col := col) (dd := dd) (k0 := k0) (k1 := k1) (k2 := k2) (k3 := k3) (k5 := k5)
    PySem.F.excBase_ValueError (mN := mN) (T.hasType PySem.F.excBase_ValueError.hasBase) (I.ok.hd hc) (by rw [he]; show (false || (backTo cpos (starEach es X.env)).any (·.1)) = false; rw [hpl]; rfl) hni (ld_glob I hg c.at_ ⟨rfl, ?_⟩ hd)
  have h' := ha cpos pins s σ H _ I h
  rw [he] at h' ⊢
  refine Calls.evalArgs_plain (thn h' fun us s2 ⟨vs, H2, I2, r2, z, q2⟩ => ?_)
  have hl : us.length ≤ sizeLine := by rw [← r2.length]; exact Nat.le_of_lt (small1000 z)
  exact ⟨rfl, hl, I2.bk _ _ hC, hN.keeps I2.bk, T.keeps I2.bk, fun h' e hm => hr pins σ H2 s2 h' e us I2 hm q2⟩
end
/-! ### what may raise, inside try -/
def XIn (X : Cx) (pins : List (Addr × Obj)) (σ : St) (E : XK) (e : Value) (s' : Shared) : Prop := ∃ H1 s1, Inv X pins σ H1 s1 ∧ CXE X.prog X.w X.stack H1 s1 E e s'
def PEx (X : Cx) (e : Expr) (t : XK → TE) : Prop :=
  ∀ (pins : List (Addr × Obj)) (s : Shared) (σ : St) (H : Hp) (Q : VK) (E : XK), Inv X pins σ H s → t E σ H Q → wpAny (model X.prog X.w) X.A (eval e X.env) (EP X pins σ Q) (XIn X pins σ E) s
def PSx (X : Cx) (st : Stmt) (t : XK → TS) : Prop :=
  ∀ (pins : List (Addr × Obj)) (s : Shared) (σ : St) (H : Hp) (D : Ends) (E : XK), Inv X pins σ H s → t E D σ H → wpAny (model X.prog X.w) X.A (exec st X.env) (SP X pins D) (XIn X pins σ E) s
section
variable {X : Cx} {k j : Nat} {ps : List Str} {sp : Sp} {x : Str} {p pos : Pos} {e : Expr} {es : List Expr} {t : TA}
end
/-- a caught exception, as a tracked thing -/
def ExcAt (a C : Addr) (h : Heap) : Prop := ∃ o, h.get? a = some o ∧ o.cls = .ref C
def xO (a C : Addr) : HO := .ext (ExcAt a C)
/-- the context of an except suite -/
def Cx.suite (X : Cx) (ea : Addr) : Cx := { X with A := X.A.mark (some (.ref ea)), calm := false, xe := fun _ _ => False }
section
variable {X : Cx} {pins : List (Addr × Obj)} {σ : St} {H : Hp} {s : Shared}
end
/-- try: one statement that may raise; except C as n: suite -/
def tTry (K : PySem.W.Frag) (W : Addr) (i : Nat) (t : XK → TS) (ts : TS) : TS := fun D σ H =>
  t (fun cls _ H2 => ∃ C, cls = .ref C ∧ PySem.W.exmOne K (.ref C) (.ref W) = some true ∧ ∀ ea, H2 ea = none →
    ts ⟨fun σ2 H3 => D.nx (σ2.set i none) H3, D.rt, fun σ2 H3 => D.bk (σ2.set i none) H3, fun σ2 H3 => D.ct (σ2.set i none) H3⟩ (σ.set i (some (.ref ea))) (upd H2 ea (xO ea C))) D σ H
section
variable {X : Cx} {st b₀ : Stmt} {suite : List Stmt} {W : Addr} {i : Nat} {y n : Str} {np hpos pos : Pos} {t : XK → TS} {ts : TS}
end

theorem passE0 {P : Program} {w : World} {X : Cx} : Passes (CXE P w) X E0 := fun _ _ _ _ _ _ _ ⟨_, _, _, _, _, F⟩ => F.want.elim
theorem Fun.okE {P : Program} {w : World} {K : PySem.W.Frag} {mg : Str → Option Value} {base : Heap} {x qual : Str} {st : Stmt} {f : Addr} {fd : FuncData} {N ps : List Str} {k : Nat} {sp : Sp} (F : Fun K x qual st f fd) (S : FnScope N ps (defScope st)) (len : ∀ vs H Q E, sp vs H Q E → vs.length = ps.length)
    (hbody : ∀ (cdv : Value) (A : Around) (outer : List Env) (s : Shared) (H : Hp) (vs : List V) (Q : VK) (E : XK), Room k (A.deeper (envOfC qual (defScope st) s.heap.objs.size f cdv)) → sp vs H Q E →
      ∃ t, PSs (cxOf (CXE P w) P w K mg base N qual (defScope st) f cdv A outer s H E) (defBody st) t ∧ t { nx := fun _ H' => Q .non H', rt := Q } (start N vs) H) : FnOk P w K mg base (CXE P w) (k + 1) f fd ps sp := by
  obtain ⟨oc, od, kV, doc, pm, an, cdv, ct, osl, rfl, lk, hcd⟩ := F.ex
  exact fn_of lk hcd S len fun A outer s H vs Q E hr hsp => hbody cdv A outer s H vs Q E hr hsp
end L2

set_option Elab.async false
set_option linter.all false
set_option maxRecDepth 100000
namespace L2
open PySem PySem.Spec PyProof.Rows PySem.Builtin PySem.Builtin.ObjectAttr PySem.Builtin.Getset_descriptor
/-! ### isinstance of a caught exception -/
section
variable {prog : Program} {w : World} {A : Around} {E : Value → Shared → Prop} {s : Shared} {K : PySem.W.Frag} {a C : Addr}
end
section
variable {X : Cx}
def rIsX (K : PySem.W.Frag) (c : V) (cv : Value) : List V → Hp → VK → Prop := fun xs H Q => ∃ a C b, xs = [.ref a, c] ∧ H a = some (xO a C) ∧ ExcK K C ∧ PySem.W.kitOne K (.ref C) cv = some b ∧ Q (.bl b) H
theorem st_raise {D : Ends} {C : Addr} {E : XK} {t : TA} {σ : St} {H : Hp} (h : t σ H fun vs H1 => vs.length ≤ 1000 ∧ E (.ref C) none H1) : tRaise C E t D σ H := h
end
end L2

/-! Own mathematics: parities of bits, the product's sign. -/
namespace Tw
theorem cnt_xor2 (p q : Nat → Bool) : ∀ k, (cnt (fun i => p i ^^ q i) k) % 2 = (cnt p k + cnt q k) % 2
  | 0 => rfl
  | k + 1 => by
    have h := cnt_xor2 p q k
    rw [cnt, cnt, cnt]
    cases p k <;> cases q k <;> simp <;> omega
theorem big2 (a b : Nat) : ∃ k, a < 2 ^ k ∧ b < 2 ^ k := ⟨a + b, by
    have := @Nat.lt_two_pow_self (a + b); omega, by
    have := @Nat.lt_two_pow_self (a + b); omega⟩
/-- the ones of two numbers turned over by one another: their parities add -/
theorem pop_xor2 (a b : Nat) : pop (a ^^^ b) % 2 = (pop a + pop b) % 2 := by
  obtain ⟨k, ha, hb⟩ := big2 a b
  rw [pop_cnt k _ (xor_lt ha hb), pop_cnt k _ ha, pop_cnt k _ hb, ← cnt_xor2]
  congr 1
  exact cnt_congr fun i _ => by rw [Nat.testBit_xor]
theorem and_xor_d (a b c : Nat) : a &&& (b ^^^ c) = (a &&& b) ^^^ (a &&& c) := by
  apply Nat.eq_of_testBit_eq
  intro i
  simp only [Nat.testBit_and, Nat.testBit_xor]
  cases a.testBit i <;> cases b.testBit i <;> cases c.testBit i <;> rfl
theorem xor_and_d (a b c : Nat) : (a ^^^ b) &&& c = (a &&& c) ^^^ (b &&& c) := by
  rw [Nat.and_comm, and_xor_d, Nat.and_comm c a, Nat.and_comm c b]
/-- the ones that two rows' letters have in common, by parity -/
theorem pop_both (x1 z1 x2 z2 : Nat) : pop ((x1 ^^^ x2) &&& (z1 ^^^ z2)) % 2 = (pop (x1 &&& z1) + pop (x2 &&& z2) + pop ((x1 &&& z2) ^^^ (z1 &&& x2))) % 2 := by
  have e : (x1 ^^^ x2) &&& (z1 ^^^ z2) = ((x1 &&& z1) ^^^ (x1 &&& z2)) ^^^ ((x2 &&& z1) ^^^ (x2 &&& z2)) := by
    rw [xor_and_d, and_xor_d, and_xor_d]
  have h1 := pop_xor2 ((x1 &&& z1) ^^^ (x1 &&& z2)) ((x2 &&& z1) ^^^ (x2 &&& z2))
  have h2 := pop_xor2 (x1 &&& z1) (x1 &&& z2)
  have h3 := pop_xor2 (x2 &&& z1) (x2 &&& z2)
  have h4 := pop_xor2 (x1 &&& z2) (z1 &&& x2)
  rw [Nat.and_comm z1 x2] at h4 ⊢
  rw [e]
  omega
end Tw

set_option Elab.async false
set_option linter.all false
set_option maxRecDepth 100000
namespace Tw
end Tw
namespace L2
open PySem PySem.Spec PyProof.Rows
/-! Steps of readings, third part. -/
section
variable {K : PySem.W.Frag} {H : Hp} {Q : VK} {σ : St} {ta tb tc : TE} {r r' : R2} {n k : Nat} {i : Int} {p q : Bool} {a : Addr}
theorem st_and1 (h : Q (.int (Tw.bI (n.testBit 0))) H) : rI0 (fun i j => .int (Builtin.bitAnd i j)) (.int (n : Int)) (.int 1) H Q := st_i0 (by
  have e := bitAnd_bit n 0
  rw [Int.pow_zero, Int.ediv_one] at e
  rw [e]; exact h)
end
section
variable {X : Cx} {K : PySem.W.Frag}
theorem ix_tupK (h : X.K = K) : IxR X (rIxT K) := h ▸ ix_tup
theorem ix_listK (h : X.K = K) : IxR X (rIxL K) := h ▸ ix_list
end
section
variable {X : Cx} {K : PySem.W.Frag}
end
end L2

set_option Elab.async false
set_option linter.all false
set_option maxRecDepth 100000
namespace L2
open PySem PySem.Spec PyProof.Rows
/-! all, list, str of an int; steps. -/
theorem all_getD (bs : List Bool) : (List.range bs.length).all (fun i => bs.getD i false) = bs.all id := by
  rw [Bool.eq_iff_iff, List.all_eq_true, List.all_eq_true]
  constructor
  · intro h b hb
    obtain ⟨i, hi, e⟩ := List.getElem_of_mem hb
    have := h i (List.mem_range.mpr hi)
    rw [List.getD_eq_getElem?_getD, List.getElem?_eq_getElem hi, Option.getD_some, e] at this
    exact this
  · intro h i hi
    have hi' := List.mem_range.mp hi
    rw [List.getD_eq_getElem?_getD, List.getElem?_eq_getElem hi', Option.getD_some]
    exact h _ (List.getElem_mem hi')
section
variable {X : Cx}
def rAll (K : PySem.W.Frag) : List V → Hp → VK → Prop := fun xs H Q => ∃ (p : Addr) (bs : List Bool), xs = [.ref p] ∧ SqL K H p (bs.map V.bl) ∧ Q (.bl (bs.all id)) H
theorem call_allB (hc : X.calm = true) : CallR X (.builtin "all") (rAll X.K) := by
  intro pins s σ H xs us Q I r h
  obtain ⟨p, bs, rfl, hs, q⟩ := h
  obtain ⟨u, rfl, ru⟩ := Vals.one r
  cases (show u = Value.ref p from ru)
  obtain ⟨its, rv, pl, hz⟩ := I.list hs
  have hlen : its.length = bs.length := by rw [← rv.length, List.length_map]
  have hpl : p < s.heap.objs.size := by
    obtain ⟨o, n, e, _⟩ := pl
    exact Heap.lt_size e
  refine call_all_walk (wpAny_pyIter_list pl.isList ?_)
  refine ⟨s.heap.objs.size, [s.heap.objs.size, p], [s.heap.objs.size], its.toArray.size, _, _, fun i => bs.getD i false, rfl, Walks.list (A := X.A.in1) (I.ok.hd hc) s.heap.objs.size p (Nat.ne_of_lt hpl) its.toArray, ⟨⟨_, Heap.get?_push_size _ rfl, rfl, rfl⟩, ?_⟩, fun i v s' Q' E' hv hq => ?_, fun h' tk hk => ?_⟩
  · exact pl.isList.at fun o e => Heap.get?_push_of_some _ e
  · have hv' : its[i]? = some v := by simpa using hv
    have hi : i < bs.length := by
      rw [← hlen]; exact (List.getElem?_eq_some_iff.mp hv').1
    obtain ⟨u, e1, e2⟩ := rv.get (i := i) (x := .bl bs[i]) (by rw [List.getElem?_map, List.getElem?_eq_getElem hi]; rfl)
    rw [hv'] at e1; cases e1
    cases (show v = Value.bool bs[i] from e2)
    refine wpAny_truthy_bool ?_
    dsimp only at hq
    rw [List.getD_eq_getElem?_getD, List.getElem?_eq_getElem hi, Option.getD_some] at hq
    exact hq
  · have e : its.toArray.size = bs.length := by simpa using hlen
    rw [e, all_getD]
    refine ⟨.bl _, H, I.kept (t' := tk) (h' := h') fun b o eb => hk b o (fun z => ?_) (Heap.get?_push_of_some _ eb), rfl, q⟩
    have : b = s.heap.objs.size := by simpa using z
    exact Nat.lt_irrefl _ (this ▸ Heap.lt_size eb)
/-! {}, as in the guide's dict layer -/
def tDNew : TE := fun _ H Q => ∀ p, H p = none → Q (.ref p) (upd H p (.dK []))
def rLst (K : PySem.W.Frag) : List V → Hp → VK → Prop := fun xs H Q => ∃ p ys, xs = [.ref p] ∧ (SqL K H p ys ∨ SqT K H p ys) ∧ ∀ l, H l = none → Q (.ref l) (upd H l (.lst ys))
theorem call_listQ : CallR X (.type "list") (rLst X.K) := call_list_of
def rStrI : List V → Hp → VK → Prop := fun xs H Q => ∃ i, xs = [.int i] ∧ i.natAbs.log2 < 1920 ∧ Q (.str (toString i)) H
end
section
variable {K : PySem.W.Frag} {H : Hp} {Q : VK} {a : Addr} {xs : List V}
theorem st_all {bs : List Bool} (s : SqL K H a (bs.map V.bl)) (q : Q (.bl (bs.all id)) H) : rAll K [.ref a] H Q := ⟨a, bs, rfl, s, q⟩
theorem st_yes {σ : St} {R : Bool → Hp → Prop} (h : R true H) : tYes σ H R := h
theorem st_comp_tup {tl : TE} {tt : TT} {te : TE} {σ : St} (e : ∀ P : V → Hp → Prop, P (.ref a) H → tl σ H P) (s : SqT K H a xs) (Pv : Nat → List V → Hp → Prop) (hn : xs.length ≤ 1000) (h0 : Pv 0 [] H) (hl : ∀ i ys H, Pv i ys H → ys.length ≤ i) (hk : ∀ i ys H, Pv i ys H → SqT K H a xs)
    (hs : ∀ i x ys H, xs[i]? = some x → Pv i ys H → tt (some x :: σ) H fun b H2 => if b = true then te (some x :: σ) H2 fun y H3 => Pv (i + 1) (ys ++ [y]) H3 else Pv (i + 1) ys H2)
    (hd : ∀ ys H, Pv xs.length ys H → ∀ p, H p = none → Q (.ref p) (upd H p (.lst ys))) : tComp (iTup K tl) tt te σ H Q :=
  e _ ⟨a, rfl, ⟨xs, s⟩, comp_tup Pv hn h0 hl hk hs hd⟩
end
end L2

set_option Elab.async false
set_option linter.all false
set_option maxRecDepth 100000
namespace L2
open PySem PySem.Spec PyProof.Rows
/-! Own classes: made by their name, methods by the class of the instance, methods by the class's name, tables of texts, min and max. -/
/-- a class of the text that is made by its name -/
structure KCal (P : Program) (w : World) (K : PySem.W.Frag) (mg : Str → Option Value) (base : Heap) (CX : CXT) (k : Nat) (x : Str) (C : Addr) (ps : List Str) (sp : Sp) : Prop where
  ex : ∃ f fd, Mk K C f ∧ FnOk P w K mg base CX k f fd ps sp ∧ Binds K fd ps [] ∧ mg x = some (.ref C)
/-- a method of the class at C -/
structure MCal (P : Program) (w : World) (K : PySem.W.Frag) (mg : Str → Option Value) (base : Heap) (CX : CXT) (k : Nat) (C : Addr) (m : Str) (ps : List Str) (sp : Sp) : Prop where
  cl : Cls K C
  ex : ∃ f fd, Meth K C m f ∧ FnOk P w K mg base CX k f fd ps sp ∧ Binds K fd ps []
/-- a def of a class, asked for by the class's name -/
structure CMeth (K : PySem.W.Frag) (C : Addr) (m : Str) (f : Addr) : Prop where
  g : PySem.W.specialIn K (.ref C) "__getattribute__" = some (some (.builtin "type.__getattribute__"))
  r : PySem.W.readsIn K C (.type "type") = true
  e : PySem.W.findCls K (.ref C) (.type "type") m = some (.val (.ref f))
  kp : PySem.W.keepIn K (.ref f) = true
structure CCal (P : Program) (w : World) (K : PySem.W.Frag) (mg : Str → Option Value) (base : Heap) (CX : CXT) (k : Nat) (x m : Str) (ps : List Str) (sp : Sp) : Prop where
  ex : ∃ C f fd, mg x = some (.ref C) ∧ CMeth K C m f ∧ FnOk P w K mg base CX k f fd ps sp ∧ Binds K fd ps []
section
variable {X : Cx} {CX : CXT} {j k : Nat} {C : Addr} {ps : List Str} {sp : Sp} {E : XK} {x m : Str} {p pos apos : Pos} {e o : Expr} {es : List Expr} {ta : TE} {t : TA}
theorem pe_new (c : KCal X.prog X.w X.K X.mg X.base CX k x C ps sp) (hr : Room j X.A) (hx : Passes CX X E) (ha : PA X (e :: es) t) (hk : k + 1 ≤ j := by decide) (hg : Gl X x := by rfl) (hdb : (x == ("__debug__" : Str)) = false := by decide)
    (he : starEach (e :: es) X.env = (false, eval e X.env) :: starEach es X.env := by rfl) (hpl : (backTo pos (starEach es X.env)).any (·.1) = false := by rfl) :
    PE X (.Call (.Name x p) (e :: es) [] pos) (tMake C sp [] E t) := by
  obtain ⟨f, fd, M, F, b, m⟩ := c.ex
  exact pe_make M F (hr.mono hk) hg m b .nil hx ha hdb he hpl
/-- C.m(..), C the class's name -/
theorem pe_cm {pl : Sem Bool} (c : CCal X.prog X.w X.K X.mg X.base CX k x m ps sp) (hr : Room j X.A) (hx : Passes CX X E) (ha : PA X (e :: es) t) (hk : k ≤ j := by decide) (hg : Gl X x := by rfl) (hdb : (x == ("__debug__" : Str)) = false := by decide)
    (hst : starEach (e :: es) X.env = (false, eval e X.env) :: starEach es X.env := by rfl) (hpl : (backTo pos (starEach es X.env)).any (·.1) = false := by rfl)
    (ht : eval (.Call (.Attribute (.Name x p) m apos) (e :: es) [] pos) X.env = (do
      let ov ← eval (.Name x p) X.env
      standAt apos.atName
      let (f, first) ← holding [ov] (getMethod ov m pl)
      callWith pos f first (backTo pos (starEach (e :: es) X.env)) (backToKw pos (keywordEach [] X.env))) := by rfl) :
    PE X (.Call (.Attribute (.Name x p) m apos) (e :: es) [] pos) (tCall sp [] E t) := by
  intro pins s σ H Q I h
  obtain ⟨C, f, fd, hm, cm, F, b⟩ := c.ex
  refine PySem.W.methodCall_KW (pl := pl) (ld_glob I hg hm ?_ hdb) ht
  refine PySem.W.method_cls I.kIn cm.g (PySem.W.cls_value I.kIn cm.r cm.e rfl ?_)
  refine PySem.W.callWith_K (first := []) (h₀ := X.base) I.ok.mod.kin cm.kp (thn (ha pos pins _ σ H _ (I.tok _) h) fun us s2 ⟨vs, H2, I2, r, q2⟩ => ⟨I2.kIn, ?_⟩) hst hpl
  exact run_fn F (hr.mono hk) b .nil hx I2 r q2
/-! ### a table of the module: texts to ints -/
def Tab (K : PySem.W.Frag) (a : Addr) (D : List (Str × Int)) : Prop := KTD.tabLook (KTD.datLooks fun b => K.lookup b) (fun b => K.lookup b) a (D.map fun p => (p.1, KTD.Dat.flat (.int p.2))) = true
def GTab (K : PySem.W.Frag) (mg : Str → Option Value) (x : Str) (a : Addr) (D : List (Str × Int)) : Prop := mg x = some (.ref a) ∧ Tab K a D
def tabAt (k : Str) (D : List (Str × Int)) : Option Int := KTD.datumAt k D
def rInTab (K : PySem.W.Frag) (neg : Bool) : R2 := fun x y H Q => ∃ k a D, x = .str k ∧ y = .ref a ∧ Tab K a D ∧ Q (.bl (neg != (tabAt k D).isSome)) H
def rIxTab (K : PySem.W.Frag) : R2 := fun x y H Q => ∃ k a D i, x = .ref a ∧ y = .str k ∧ Tab K a D ∧ tabAt k D = some i ∧ Q (.int i) H
/-! ### min, max of a tuple or list of ints -/
end
theorem ints_items : ∀ {ns : List Int} {us : List Value}, Vals (ns.map V.int) us → ∃ xs : Array (Int × Tok), us.toArray = intItems xs ∧ xs.toList.map (·.1) = ns
  | [], [], _ => ⟨#[], by simp [intItems], rfl⟩
  | n :: ns, u :: us, r => by
    cases r with
    | cons r1 r2 =>
      obtain ⟨t, rfl⟩ := r1
      obtain ⟨xs, e1, e2⟩ := ints_items r2
      refine ⟨((n, t) :: xs.toList).toArray, ?_, ?_⟩
      · have e3 : us = (intItems xs).toList := by rw [← e1]
        rw [e3]
        simp [intItems]
      · simp [e2]
def rBest (K : PySem.W.Frag) (le : Int → Int → Prop) : List V → Hp → VK → Prop := fun xs H Q => ∃ (p : Addr) (ns : List Int), xs = [.ref p] ∧ (SqL K H p (ns.map V.int) ∨ SqT K H p (ns.map V.int)) ∧ 0 < ns.length ∧ ∀ M, M ∈ ns → (∀ a ∈ ns, le a M) → Q (.int M) H
section
variable {X : Cx} {s : Shared} {A : Around} {E : Value → Shared → Prop}
theorem best_fin {pins : List (Addr × Obj)} {σ : St} {H : Hp} {Q : VK} {ns : List Int} {xs : Array (Int × Tok)} {num : Nat → Nat → Bool} {le : Int → Int → Prop} (I : Inv X pins σ H s) (ex : xs.toList.map (·.1) = ns) (hne : 0 < ns.length)
    (hb : argBest num (xs.size - 1) ≤ xs.size - 1 ∧ ∀ j, j ≤ xs.size - 1 → le (numAt xs j) (numAt xs (argBest num (xs.size - 1)))) (q : ∀ M, M ∈ ns → (∀ a ∈ ns, le a M) → Q (.int M) H)
    {v : Value} {h' : Heap} {tk : Nat} (hv : (intItems xs)[argBest num (xs.size - 1)]? = some v) (hk : ∀ b o, s.heap.get? b = some o → h'.get? b = some o) : EP X pins σ Q v { s with heap := h', toks := tk } := by
  obtain ⟨t, rfl⟩ := intItems_at hv
  have hsz : 0 < xs.size := by
    rw [← ex, List.length_map, Array.length_toList] at hne
    exact hne
  refine ⟨.int _, H, I.kept hk, ⟨_, rfl⟩, q _ ?_ fun a ha => ?_⟩
  · rw [← ex, numAt_eq]; exact getD_mem (by rw [List.length_map, Array.length_toList]; omega)
  · rw [← ex] at ha
    obtain ⟨j, hj, rfl⟩ := mem_getD ha
    rw [List.length_map, Array.length_toList] at hj
    rw [← numAt_eq]; exact hb.2 j (by omega)
theorem tup_kept {l : Addr} {xs : Array (Int × Tok)} (hT : s.heap.IsTuple l (intItems xs)) {h' : Heap} (hk : ∀ b o, b ∉ [s.heap.objs.size] → (s.heap.push { cls := .type "tuple_iterator", data := .fields #[.ref l, .int 0 0] }).get? b = some o → h'.get? b = some o) :
    ∀ b o, s.heap.get? b = some o → h'.get? b = some o := fun b o e => by
  refine hk b o (fun hm => ?_) (Heap.get?_push_of_some _ e)
  rcases List.mem_cons.mp hm with e1 | hm
  · exact absurd (e1 ▸ Heap.lt_size e) (Nat.lt_irrefl _)
  · cases hm
theorem best_pre {ns : List Int} {xs : Array (Int × Tok)} (ex : xs.toList.map (·.1) = ns) (hne : 0 < ns.length) : 0 < xs.size := by
  rw [← ex, List.length_map, Array.length_toList] at hne
  exact hne
theorem call_maxL (hc : X.calm = true) : CallR X (.builtin "max") (rBest X.K fun a M => a ≤ M) := by
  intro pins s σ H xs us Q I r h
  obtain ⟨p, ns, rfl, hs, hne, q⟩ := h
  obtain ⟨u, rfl, ru⟩ := vals1 r
  cases ru
  rcases hs with hs | hs
  · obtain ⟨its, ri, pl, _⟩ := I.list hs
    obtain ⟨xs, e1, e2⟩ := ints_items ri
    have hl : s.heap.IsList p (intItems xs) := by rw [← e1]; exact pl.isList
    exact max_intList (I.ok.hd hc) hl (best_pre e2 hne) fun v h' tk hv hk => best_fin I e2 hne (argBest_gt (numAt xs) (xs.size - 1)) q hv hk
  · obtain ⟨its, ri, pl, _⟩ := I.tuple hs
    obtain ⟨xs, e1, e2⟩ := ints_items ri
    have hT : s.heap.IsTuple p (intItems xs) := by rw [← e1]; exact pl
    have hlt : p < s.heap.objs.size := by obtain ⟨_, e, _⟩ := hT; exact Heap.lt_size e
    refine call_max_walk (wpAny_pyIter_tuple hT ?_)
    refine ⟨_, [_, p], [_], _, _, _, _, rfl, Walks.tuple (A := X.A.in1) (I.ok.hd hc) _ p (Nat.ne_of_lt hlt) (intItems xs), ⟨⟨_, Heap.get?_push_size _ rfl, rfl, rfl⟩, hT.push _⟩, fun c hc' => ?_,
      by simpa [intItems] using best_pre e2 hne, CmpOf.ints_gt (numAt xs) (fun _ _ => intItems_at), fun v h' tk hP hk => ?_⟩
    · show c < (s.heap.push _).objs.size
      rw [Heap.size_push]
      rcases List.mem_cons.mp hc' with rfl | hc'
      · exact Nat.lt_succ_self _
      · rcases List.mem_cons.mp hc' with rfl | hc'
        · exact Nat.lt_succ_of_lt hlt
        · cases hc'
    · exact best_fin I e2 hne (argBest_gt (numAt xs) (xs.size - 1)) q (by simpa [intItems] using hP) (tup_kept hT hk)
end
/-! ### methods of a family of classes -/
def tMethD {ι : Type} (CD : ι → Addr) (spm : ι → Sp) (m : Str) (E : XK) (ta : TE) (t : TA) : TE := fun σ H Q => ta σ H fun x H1 => ∃ a d dx fs, x = .ref a ∧ H1 a = some (.ins (CD d) dx fs) ∧ fs.lookup m = none ∧ t σ H1 fun vs H2 => spm d (x :: vs) H2 Q E
section
variable {X : Cx} {CX : CXT} {j k : Nat} {ι : Type} {CD : ι → Addr} {spm : ι → Sp} {ps : List Str} {E : XK} {m : Str} {pos apos : Pos} {e o : Expr} {es : List Expr} {ta : TE} {t : TA}
theorem pe_md {pl : Sem Bool} (hM : ∀ d, MCal X.prog X.w X.K X.mg X.base CX k (CD d) m ps (spm d)) (hr : Room j X.A) (hx : Passes CX X E) (he : PE X o ta) (ha : PA X (e :: es) t) (hk : k ≤ j := by decide)
    (hst : starEach (e :: es) X.env = (false, eval e X.env) :: starEach es X.env := by rfl) (hpl : (backTo pos (starEach es X.env)).any (·.1) = false := by rfl)
    (ht : eval (.Call (.Attribute o m apos) (e :: es) [] pos) X.env = (do
      let ov ← eval o X.env
      standAt apos.atName
      let (f, first) ← holding [ov] (getMethod ov m pl)
      callWith pos f first (backTo pos (starEach (e :: es) X.env)) (backToKw pos (keywordEach [] X.env))) := by rfl) :
    PE X (.Call (.Attribute o m apos) (e :: es) [] pos) (tMethD CD spm m E ta t) := by
  intro pins s σ H Q I h
  refine PySem.W.methodCall_KW (pl := pl) (thn (he pins s σ H _ I h) fun u s1 ⟨x, H1, I1, rx, a, d, dx, fs, ex, ea, l, q⟩ => ?_) ht
  subst ex
  obtain rfl : u = Value.ref a := rx
  have M := hM d
  obtain ⟨f, fd, hm, F, b⟩ := M.ex
  refine getmeth_ok I1 ea M.cl hm l ?_
  refine PySem.W.callWith_K (first := [.ref a]) (h₀ := X.base) I.ok.mod.kin hm.kp (thn (ha pos pins s1 σ H1 _ I1 q) fun us s2 ⟨vs, H2, I2, r, q2⟩ => ⟨I2.kIn, ?_⟩) hst hpl
  exact run_fn (us := .ref a :: us) (vs := .ref a :: vs) (dvs := []) F (hr.mono hk) b .nil hx I2 (.cons rfl r) (by rw [List.append_nil]; exact q2)
theorem pe_md0 {pl : Sem Bool} (hM : ∀ d, MCal X.prog X.w X.K X.mg X.base CX k (CD d) m ps (spm d)) (hr : Room j X.A) (hx : Passes CX X E) (he : PE X o ta) (hk : k ≤ j := by decide)
    (ht : eval (.Call (.Attribute o m apos) [] [] pos) X.env = (do
      let ov ← eval o X.env
      standAt apos.atName
      let (f, first) ← holding [ov] (getMethod ov m pl)
      callWith pos f first (backTo pos (starEach [] X.env)) (backToKw pos (keywordEach [] X.env))) := by rfl) :
    PE X (.Call (.Attribute o m apos) [] [] pos) (tMethD CD spm m E ta tNil) := by
  intro pins s σ H Q I h
  refine PySem.W.methodCall_KW (pl := pl) (thn (he pins s σ H _ I h) fun u s1 ⟨x, H1, I1, rx, a, d, dx, fs, ex, ea, l, q⟩ => ?_) ht
  subst ex
  obtain rfl : u = Value.ref a := rx
  have M := hM d
  obtain ⟨f, fd, hm, F, b⟩ := M.ex
  refine getmeth_ok I1 ea M.cl hm l ?_
  exact PySem.W.callWith_K0 (first := [.ref a]) I1.kIn hm.kp (run_fn (us := [.ref a]) (vs := [.ref a]) (dvs := []) F (hr.mono hk) b .nil hx I1 (.cons rfl .nil) q)
end
/-! ### isinstance of an instance by an own class -/
structure TyC (K : PySem.W.Frag) (C : Addr) : Prop where
  ca : PySem.W.findIn K (.ref C) "__class__" = some (some (.builtin "object.__class__"))
  cg : PySem.W.specialIn K (.builtin "object.__class__") "__get__" = some (some (.builtin "getset_descriptor.__get__"))
  tk : PySem.W.takesIn K (.builtin "object.__class__") = some true
  mo : PySem.W.mroIn K C (.type "object") = some true
section
variable {X : Cx}
end
/-! ### steps -/
theorem boot_max : bootBuiltins "max" = some (.builtin "max") := by decide +kernel
section
variable {K : PySem.W.Frag} {H : Hp} {Q : VK} {σ : St} {D : Ends} {te ta tv : TE} {tA : TA} {f m : Str} {a C dx : Addr} {fs : List (Str × V)} {v : V}
def rFld (K : PySem.W.Frag) (f : Str) (x : V) (H1 : Hp) (Q : VK) : Prop := ∃ a C dx fs v, x = .ref a ∧ H1 a = some (.ins C dx fs) ∧ Cls K C ∧ NoAttr K C f ∧ fs.lookup f = some v ∧ Q v H1
theorem st_fld (h : ta σ H fun x H1 => rFld K f x H1 Q) : tFld K ta f σ H Q := h
theorem st_fld1 (e : H a = some (.ins C dx fs)) (c : Cls K C) (n : NoAttr K C f) (l : fs.lookup f = some v) (q : Q v H) : rFld K f (.ref a) H Q := ⟨a, C, dx, fs, v, rfl, e, c, n, l, q⟩
def rPut (K : PySem.W.Frag) (f : Str) (D : Ends) (σ : St) (y x : V) (H2 : Hp) : Prop := ∃ a C dx fs, x = .ref a ∧ H2 a = some (.ins C dx fs) ∧ Cls K C ∧ NoAttr K C f ∧ fs.length < 1000 ∧ D.nx σ (upd H2 a (.ins C dx (putF f y fs)))
theorem st_put (h : tv σ H fun y H1 => ta σ H1 fun x H2 => rPut K f D σ y x H2) : sFld K ta tv f D σ H := h
theorem st_put1 {y : V} (e : H a = some (.ins C dx fs)) (c : Cls K C) (n : NoAttr K C f) (l : fs.length < 1000) (q : D.nx σ (upd H a (.ins C dx (putF f y fs)))) : rPut K f D σ y (.ref a) H := ⟨a, C, dx, fs, rfl, e, c, n, l, q⟩
theorem st_make {sp : Sp} {dvs : List V} {E : XK} (h : tA σ H fun vs H1 => ∀ x dx, H1 x = none → H1 dx = none → dx ≠ x → sp (.ref x :: (vs ++ dvs)) (upd (upd H1 dx (.own x)) x (.ins C dx [])) (fun v H2 => v = .non ∧ Q (.ref x) H2) E) : tMake C sp dvs E tA σ H Q := h
def rMeth {ι : Type} (CD : ι → Addr) (m : Str) (x : V) (H1 : Hp) (R : ι → Prop) : Prop := ∃ a d dx fs, x = .ref a ∧ H1 a = some (.ins (CD d) dx fs) ∧ fs.lookup m = none ∧ R d
theorem st_md {ι : Type} {CD : ι → Addr} {spm : ι → Sp} {E : XK} (h : ta σ H fun x H1 => rMeth CD m x H1 fun d => tA σ H1 fun vs H2 => spm d (x :: vs) H2 Q E) : tMethD CD spm m E ta tA σ H Q := h
theorem st_md1 {ι : Type} {CD : ι → Addr} {R : ι → Prop} {d : ι} (e : H a = some (.ins (CD d) dx fs)) (l : fs.lookup m = none) (q : R d) : rMeth CD m (.ref a) H R := ⟨a, d, dx, fs, rfl, e, l, q⟩
end
theorem same_made {H : Hp} {x dx C : Addr} (hx : H x = none) (hd : H dx = none) : Same H (upd (upd H dx (.own x)) x (.ins C dx [])) := fun b o e => by
  rw [upd_ne (ne_of_none e hx), upd_ne (ne_of_none e hd)]
  exact e
end L2

set_option Elab.async false
set_option linter.all false
set_option maxRecDepth 100000
namespace L2
open PySem PySem.Spec PyProof.Rows
/-! A list comprehension of one clause whose target is a pair of names: after TwComp, with two names. -/
/-- what the block's scope must be: its own name x, the rest free (a cell or free where the def stands) or global -/
structure CpScope2 (sc : Scope) (x x2 : Str) (scope : Scope) : Prop where
  kind : scope.kind = .function
  cell : ∀ y ∈ scope.names, y.2 ≠ .cell
  own : scope.names.lookup x = some .local
  own2 : scope.names.lookup x2 = some .local
  loc : ∀ y ∈ scope.names, y.2 = .local → y.1 = x ∨ y.1 = x2 ∨ y.1 = (".0" : Str)
  nam : ∀ y ∈ scope.names, y.2 = .local → scope.names.lookup y.1 = some .local
  free : ∀ y ∈ scope.names, y.2 = .free → sc.names.lookup y.1 = some .cell ∨ sc.names.lookup y.1 = some .free
  two : ∀ y ∈ scope.names, y.2 = .free → y.1 ≠ x ∧ y.1 ≠ x2
/-- the block's context -/
def Cx.comp2 (X : Cx) (M : List Str) (scope : Scope) (x x2 : Str) (C : Addr) (s : Shared) (H : Hp) (ex : List Addr) : Cx :=
  { X with N := x :: x2 :: M, s₀ := s, H₀ := H, env := compEnvC scope (clGo X.env scope.names []) C X.env, outer := X.stack, ex := ex, fn := fun _ => false, pn := [], xe := fun _ _ => False }
section
variable {X : Cx} {M : List Str} {pins : List (Addr × Obj)} {σ : St} {H : Hp} {s : Shared} {scope : Scope} {x x2 : Str}
end
/-- what a comprehension asks: an invariant over the turn, a measure and the list made so far -/
def tComp2 (K : PySem.W.Frag) (wi : TI) (tt : TT) (te : TE) : TE := fun σ H Q => wi σ H fun J H1 => ∃ W : Nat → Nat → List V → Hp → Prop, (∃ m, W 0 m [] H1) ∧ ∀ i m ys H, W i m ys H →
  (J.stop i H ∧ ∀ p, H p = none → Q (.ref p) (upd H p (.lst ys))) ∨
  (J.go i H ∧ ys.length < sizeLine ∧ ∃ N : List V → Hp → Prop, (∀ ys' H', N ys' H' → ∃ m', m' < m ∧ W (i + 1) m' ys' H') ∧
    ∀ x H', J.yld i H x H' → ∃ a v w, x = .ref a ∧ SqT K H' a [v, w] ∧ tt (some v :: some w :: σ) H' fun b H2 => if b = true then te (some v :: some w :: σ) H2 fun y H3 => N (ys ++ [y]) H3 else N ys H2)
section
variable {X : Cx} {M : List Str} {scope : Scope} {x x2 : Str} {px px2 ptg pos : Pos} {tk : Nat} {elt iter : Expr} {ifs : List Expr} {wi : TI} {tt : TT} {te : TE}
end
end L2

set_option Elab.async false
set_option linter.all false
set_option maxRecDepth 100000
namespace L2
open PySem PySem.Spec PyProof.Rows
/-! Steps for own classes, tuples, tables, flat data held against one another. -/
/-- a flat value as data -/
def dV : V → PyData
  | .bl b => .bool b
  | .int i => .int i
  | .str x => .str x
  | _ => .none
/-- flat, and no text with a sign that is none -/
def okV : V → Bool
  | .non => true
  | .bl _ => true
  | .int _ => true
  | .str x => PyData.strOk x
  | _ => false
theorem okV_flat : ∀ {x : V}, okV x = true → flatV x = true
  | .non, _ => rfl
  | .bl b, _ => rfl
  | .int i, _ => rfl
  | .str x, _ => rfl
theorem dv_flat {K : PySem.W.Frag} {H : Hp} : ∀ {x : V}, okV x = true → DV K H x (dV x)
  | .non, _ => .non
  | .bl b, _ => .bl b
  | .int i, _ => .int i
  | .str x, _ => .str x
theorem dvs_flat {K : PySem.W.Frag} {H : Hp} : ∀ {xs : List V}, xs.all okV = true → DVs K H xs (xs.map dV)
  | [], _ => .nil
  | x :: xs, h => by
    rw [List.all_cons, Bool.and_eq_true] at h
    exact .cons (dv_flat h.1) (dvs_flat h.2)
theorem dV_lay {x : V} (h : okV x = true) : (dV x).canLay0 = true := by
  cases x <;> first | (simp [dV, PyData.canLay0]; done) | (simp only [dV, PyData.canLay0]; exact h) | cases h
theorem dV_depth (x : V) : (dV x).depth = 0 := by cases x <;> simp [dV, PyData.depth]
theorem dVs_lay : ∀ {xs : List V}, xs.all okV = true → PyData.canLayAll0 (xs.map dV) = true
  | [], _ => rfl
  | x :: r, h => by
    rw [List.all_cons, Bool.and_eq_true] at h
    simp [PyData.canLayAll0, dV_lay h.1, dVs_lay h.2]
theorem dVs_depth : ∀ xs : List V, PyData.depthAll (xs.map dV) = 0
  | [] => rfl
  | x :: r => by simp [PyData.depthAll, dV_depth x, dVs_depth r]
theorem dV_eqv (x : V) : PyData.eqv (dV x) (dV x) = true := by cases x <;> simp [dV, PyData.eqv]
theorem dVs_eqv : ∀ xs : List V, PyData.eqvAll (xs.map dV) (xs.map dV) = true
  | [] => rfl
  | x :: r => by simp [PyData.eqvAll, dV_eqv x, dVs_eqv r]
theorem shapedT {xs : List V} (h : xs.all okV = true) : SeqAt.shaped (.tuple (xs.map dV)) = true := by simp [SeqAt.shaped, PyData.canLay0, PyData.depth, dVs_lay h, dVs_depth]
section
variable {K : PySem.W.Frag} {H : Hp} {Q : VK} {σ : St} {D : Ends} {a b t u : Addr} {xs ys : List V}
theorem st_bestL {le : Int → Int → Prop} {ns : List Int} (s : SqL K H a (ns.map V.int)) (h0 : 0 < ns.length) (q : ∀ M, M ∈ ns → (∀ a ∈ ns, le a M) → Q (.int M) H) : rBest K le [.ref a] H Q := ⟨a, ns, rfl, .inl s, h0, q⟩
def rIntB : List V → Hp → VK → Prop := fun xs H Q => ∃ k, xs = [.bl k] ∧ Q (.int (Tw.bI k)) H
theorem st_clear (h : H a = some (.lst xs)) (q : Q .non (upd H a (.lst []))) : rClear (.ref a) [] H Q := ⟨a, xs, rfl, rfl, h, q⟩
end
section
variable {X : Cx}
end
theorem cut1 (x : V) (xs : List V) : cutV (x :: xs) (some 1) none = xs := by
  unfold cutV
  rw [HT.sIx_none, show (some (1 : Int)) = some ((1 : Nat) : Int) from rfl, HT.sIx_nat]
  simp
section
variable {K : PySem.W.Frag} {H : Hp} {Q : VK} {a : Addr} {xs : List V}
end
theorem at0 (x : V) (xs : List V) : atI (x :: xs) 0 = some x := atI_nat (j := 0) rfl
theorem at1 (x y : V) (xs : List V) : atI (x :: y :: xs) 1 = some y := atI_nat (j := 1) rfl
/-- H' is H with another list at l -/
structure App (l : Addr) (H H' : Hp) : Prop where
  ex : ∃ xs ys, H l = some (.lst xs) ∧ H' = upd H l (.lst ys)
theorem all_get {f : V → Bool} {xs : List V} (h : xs.all f = true) {i : Nat} {x : V} (e : xs[i]? = some x) : f x = true := List.all_eq_true.mp h _ (List.mem_of_getElem? e)
theorem take_succ_of {α : Type} {xs : List α} {i : Nat} {x : α} (e : xs[i]? = some x) : xs.take (i + 1) = xs.take i ++ [x] := by
  rw [List.take_add_one, e]
  rfl
theorem int_get {is : List Int} {i : Nat} {x : V} (e : (is.map V.int)[i]? = some x) : ∃ j, x = .int j := by
  rw [List.getElem?_map] at e
  cases h : is[i]? with
  | none => rw [h] at e; cases e
  | some j => rw [h] at e; exact ⟨j, (Option.some.inj e).symm⟩
/-- a comprehension over a tuple that the clause itself makes -/
def sCompT (K : PySem.W.Frag) (tt : TT) (te : TE) (σ : St) (Q : VK) : V → Hp → Prop := fun x H1 => ∃ a, x = .ref a ∧ (∃ xs, SqT K H1 a xs) ∧ ∃ W : Nat → Nat → List V → Hp → Prop, (∃ m, W 0 m [] H1) ∧ ∀ i m ys H, W i m ys H →
  ((Itt K a).stop i H ∧ ∀ p, H p = none → Q (.ref p) (upd H p (.lst ys))) ∨
  ((Itt K a).go i H ∧ ys.length < sizeLine ∧ ∃ N : List V → Hp → Prop, (∀ ys' H', N ys' H' → ∃ m', m' < m ∧ W (i + 1) m' ys' H') ∧
    ∀ x H', (Itt K a).yld i H x H' → tt (some x :: σ) H' fun b H2 => if b = true then te (some x :: σ) H2 fun y H3 => N (ys ++ [y]) H3 else N ys H2)
section
variable {K : PySem.W.Frag} {a : Addr} {xs : List V} {tl te : TE} {tt : TT} {Q : VK} {σ : St} {H : Hp}
end
end L2

set_option Elab.async false
set_option linter.all false
set_option maxRecDepth 100000
namespace L2
open PySem PySem.Spec PyProof.Rows
/-! Bits against numbers and bits. -/
section
variable {H : Hp} {Q : VK} {n m : Nat} {p q : Bool}
end
end L2

set_option Elab.async false
set_option linter.all false
set_option maxRecDepth 100000
namespace Tw
open PySem L2
/-! Deeds: their words, the objects, the refusals. -/
inductive DK where
  | over | quarter | back | both | wher | swap
  deriving DecidableEq
def DK.word : DK → Str
  | .over => "over" | .quarter => "quarter" | .back => "back" | .both => "both" | .wher => "where" | .swap => "swap"
def DK.undo : DK → Str
  | .over => "over" | .quarter => "back" | .back => "quarter" | .both => "both" | .wher => "where" | .swap => "swap"
def DK.n : DK → Nat
  | .over => 1 | .quarter => 1 | .back => 1 | .both => 1 | .wher => 2 | .swap => 2
def DK.inv : DK → DK
  | .quarter => .back | .back => .quarter | k => k
def tabW : List (Str × Int) := [("over", 1), ("quarter", 1), ("back", 1), ("both", 1), ("where", 2), ("swap", 2)]
def vn (l : List Nat) : List V := l.map fun k => V.int ((k : Nat) : Int)
theorem vn_ints (l : List Nat) : vn l = (l.map fun k : Nat => (k : Int)).map V.int := by unfold vn; rw [List.map_map]; rfl
theorem ints_flat : ∀ l : List Int, (l.map V.int).all okV = true
  | [] => rfl
  | _ :: r => ints_flat r
theorem vn_len (l : List Nat) : (vn l).length = l.length := by unfold vn; rw [List.length_map]
/-- a deed: its kind, its wires -/
structure Dd where
  k : DK
  w : List Nat
structure Dd.Ok (d : Dd) (n : Nat) : Prop where
  len : d.w.length = d.k.n
  lt : ∀ x ∈ d.w, x < n
  nd : d.w.Nodup
def flds (k : DK) (t : Addr) : List (Str × V) := [("word", .str k.word), ("undoer", .str k.undo), ("at", .ref t)]
/-- the deed d stands at a -/
def DdAt (CD : DK → Addr) (H : Hp) (a : Addr) (d : Dd) : Prop := ∃ dx t, H a = some (.ins (CD d.k) dx (flds d.k t)) ∧ H t = some (.tup (vn d.w)) ∧ d.w.length = d.k.n
/-- the words of the kind k with these numbers stand at a -/
def WdAt (H : Hp) (a : Addr) (k : DK) (is : List Int) : Prop := H a = some (.tup (.str k.word :: is.map V.int)) ∧ is.length = k.n ∧ is.Nodup
/-- whether a thing is told to be a whole number -/
def WN (K : PySem.W.Frag) (H : Hp) (v : V) (b : Bool) : Prop := ∃ t b1 b2, TyOf K H v t ∧ PySem.W.kitOne K t (.type "int") = some b1 ∧ PySem.W.kitOne K t (.type "bool") = some b2 ∧ b = (b1 && !b2)
theorem WN.int (K : PySem.W.Frag) (H : Hp) (i : Int) : WN K H (.int i) true := ⟨_, true, false, .int i, kit_int_int, kit_int_bool, rfl⟩
theorem WN.bl (K : PySem.W.Frag) (H : Hp) (i : Bool) : WN K H (.bl i) false := ⟨_, true, true, .bl i, kit_bool_int, kit_bool_bool, rfl⟩
theorem WN.str (K : PySem.W.Frag) (H : Hp) (i : Str) : WN K H (.str i) false := ⟨_, false, false, .str i, kit_str_int, kit_str_bool, rfl⟩
theorem WN.non (K : PySem.W.Frag) (H : Hp) : WN K H .non false := ⟨_, false, false, .non, kit_NoneType_int, kit_NoneType_bool, rfl⟩
/-- flat things, told to be whole numbers or not -/
def wnB : V → Bool
  | .int _ => true
  | _ => false
theorem WN.flat (K : PySem.W.Frag) (H : Hp) : ∀ {v : V}, flatV v = true → WN K H v (wnB v)
  | .int i, _ => WN.int K H i
  | .bl i, _ => WN.bl K H i
  | .str i, _ => WN.str K H i
  | .non, _ => WN.non K H
/-- what are no words of a deed -/
inductive NoW (K : PySem.W.Frag) (H : Hp) : V → Prop
  | kind {v t} (h : TyOf K H v t) (k : PySem.W.kitOne K t (.type "tuple") = some false) : NoW K H v
  | empty {a} (h : H a = some (.tup [])) : NoW K H (.ref a)
  | first {a i xs} (h : H a = some (.tup (.int i :: xs))) (f : xs.all okV = true) (m : xs.length ≤ 900) : NoW K H (.ref a)
  | word {a s xs} (h : H a = some (.tup (.str s :: xs))) (e : tabAt s tabW = none) (fs : PyData.strOk s = true) (f : xs.all okV = true) (m : xs.length ≤ 900) : NoW K H (.ref a)
  | len {a k xs} (h : H a = some (.tup (.str (DK.word k) :: xs))) (l : xs.length ≠ k.n) (f : xs.all okV = true) (m : xs.length ≤ 900) : NoW K H (.ref a)
  | part {a k xs} (h : H a = some (.tup (.str (DK.word k) :: xs))) (l : xs.length = k.n) (f : xs.all okV = true) (e : xs.all wnB = false) : NoW K H (.ref a)
  | same {a k i} (h : H a = some (.tup [.str (DK.word k), .int i, .int i])) (e : k.n = 2) : NoW K H (.ref a)
/-- what is handed in as words: none, or a kind's with numbers -/
def Thg (K : PySem.W.Frag) (H : Hp) (v : V) : Prop := NoW K H v ∨ ∃ a k is, v = .ref a ∧ WdAt H a k is
def sp_is_whole_number (K : PySem.W.Frag) : Sp := fun vs H Q _ => ∃ v b, vs = [v] ∧ WN K H v b ∧ Q (.bl b) H
def sp_check_words (K : PySem.W.Frag) (C : Addr) : Sp := fun vs H Q E => ∃ v, vs = [v] ∧ ((NoW K H v ∧ ∀ H', Same H H' → E (.ref C) none H') ∨ (∃ a k is, v = .ref a ∧ WdAt H a k is ∧ ∀ H', Same H H' → Q .non H'))
def sp_Deed___init__ (K : PySem.W.Frag) (CD : DK → Addr) : Sp := fun vs H Q _ => ∃ p w u t, vs = [.ref p, .str w, .str u, .ref t] ∧ ∃ k dx, H p = some (.ins (CD k) dx []) ∧ Q .non (upd H p (.ins (CD k) dx [("word", .str w), ("undoer", .str u), ("at", .ref t)]))
def sp_init1 (K : PySem.W.Frag) (CD : DK → Addr) (k : DK) : Sp := fun vs H Q _ => ∃ (p : Addr) (j : Nat), vs = [.ref p, .int j] ∧ ∃ dx, H p = some (.ins (CD k) dx []) ∧ ∀ t, H t = none → Q .non (upd (upd H t (.tup (vn [j]))) p (.ins (CD k) dx (flds k t)))
def sp_init2 (K : PySem.W.Frag) (CD : DK → Addr) (k : DK) : Sp := fun vs H Q _ => ∃ (p : Addr) (j i : Nat), vs = [.ref p, .int j, .int i] ∧ ∃ dx, H p = some (.ins (CD k) dx []) ∧ ∀ t, H t = none → Q .non (upd (upd H t (.tup (vn [j, i]))) p (.ins (CD k) dx (flds k t)))
abbrev sp_Over___init__ (K : PySem.W.Frag) (CD : DK → Addr) : Sp := sp_init1 K CD .over
abbrev sp_Quarter___init__ (K : PySem.W.Frag) (CD : DK → Addr) : Sp := sp_init1 K CD .quarter
abbrev sp_Back___init__ (K : PySem.W.Frag) (CD : DK → Addr) : Sp := sp_init1 K CD .back
abbrev sp_Both___init__ (K : PySem.W.Frag) (CD : DK → Addr) : Sp := sp_init1 K CD .both
abbrev sp_Where___init__ (K : PySem.W.Frag) (CD : DK → Addr) : Sp := sp_init2 K CD .wher
abbrev sp_Swap___init__ (K : PySem.W.Frag) (CD : DK → Addr) : Sp := sp_init2 K CD .swap
def sp_Deed_wires (K : PySem.W.Frag) (CD : DK → Addr) : Sp := fun vs H Q _ => ∃ a d, vs = [.ref a] ∧ DdAt CD H a d ∧ ∀ p, H p = none → Q (.ref p) (upd H p (.lst (vn d.w)))
abbrev sp_D_wires (K : PySem.W.Frag) (CD : DK → Addr) (_ : DK) : Sp := sp_Deed_wires K CD
def sp_Deed_words (K : PySem.W.Frag) (CD : DK → Addr) : Sp := fun vs H Q _ => ∃ a d, vs = [.ref a] ∧ DdAt CD H a d ∧ ∀ p H', Same H H' → H' p = some (.tup (.str d.k.word :: vn d.w)) → Q (.ref p) H'
abbrev sp_D_words (K : PySem.W.Frag) (CD : DK → Addr) (_ : DK) : Sp := sp_Deed_words K CD
def sp_Deed_undoing (K : PySem.W.Frag) (CD : DK → Addr) : Sp := fun vs H Q _ => ∃ a d, vs = [.ref a] ∧ DdAt CD H a d ∧ ∀ p t H', Same H H' → H p = none → H' p = some (.lst [.ref t]) → H' t = some (.tup (.str d.k.undo :: vn d.w)) → Q (.ref p) H'
abbrev sp_D_undoing (K : PySem.W.Frag) (CD : DK → Addr) (_ : DK) : Sp := sp_Deed_undoing K CD
def sp_deed_of_words (K : PySem.W.Frag) (CD : DK → Addr) (C1 C2 : Addr) : Sp := fun vs H Q E => ∃ v, vs = [v] ∧ ((NoW K H v ∧ ∀ H', Same H H' → E (.ref C1) none H') ∨ (∃ a k is, v = .ref a ∧ WdAt H a k is ∧
  ((∀ i ∈ is, 0 ≤ i) → ∀ p d H', Same H H' → DdAt CD H' p d → d.k = k → d.w.map (fun x : Nat => (x : Int)) = is → Q (.ref p) H') ∧ ((¬ ∀ i ∈ is, 0 ≤ i) → ∀ H', Same H H' → E (.ref C2) none H')))
def sp_deed_of (K : PySem.W.Frag) (CD : DK → Addr) (C1 C2 : Addr) : Sp := fun vs H Q E => ∃ v n, vs = [v, .int ((n : Nat) : Int)] ∧ ((NoW K H v ∧ ∀ H', Same H H' → E (.ref C1) none H') ∨ (∃ a k is, v = .ref a ∧ WdAt H a k is ∧
  ((∀ i ∈ is, 0 ≤ i ∧ i < (n : Int)) → ∀ p d H', Same H H' → DdAt CD H' p d → d.k = k → d.w.map (fun x : Nat => (x : Int)) = is → Q (.ref p) H') ∧ ((¬ ∀ i ∈ is, 0 ≤ i ∧ i < (n : Int)) → ∀ H', Same H H' → E (.ref C2) none H')))
/-- a row of signs -/
structure Row where
  m : Nat
  x : Nat
  z : Nat
def Row.V (r : Row) : List V := [.int (r.m : Nat), .int (r.x : Nat), .int (r.z : Nat)]
structure Row.Ok (r : Row) (n : Nat) : Prop where
  m : r.m ≤ 1
  x : r.x < 2 ^ n
  z : r.z < 2 ^ n
/-- what a row becomes by a deed of the kind k at the wires i, j -/
def ex (n i j : Nat) : Nat := n ^^^ (n.testBit i ^^ n.testBit j).toNat * 2 ^ i ^^^ (n.testBit i ^^ n.testBit j).toNat * 2 ^ j
def actW (k : DK) (i j : Nat) (r : Row) : Row :=
  match k with
  | .over => ⟨r.m ^^^ (r.z.testBit i).toNat, r.x, r.z⟩
  | .quarter => ⟨r.m ^^^ (r.x.testBit i && r.z.testBit i).toNat, r.x, r.z ^^^ (r.x.testBit i).toNat * 2 ^ i⟩
  | .back => ⟨r.m ^^^ (r.x.testBit i && !r.z.testBit i).toNat, r.x, r.z ^^^ (r.x.testBit i).toNat * 2 ^ i⟩
  | .both => ⟨r.m ^^^ (r.x.testBit i && r.z.testBit i).toNat, r.x ^^^ (r.x.testBit i ^^ r.z.testBit i).toNat * 2 ^ i, r.z ^^^ (r.x.testBit i ^^ r.z.testBit i).toNat * 2 ^ i⟩
  | .wher => ⟨r.m ^^^ (r.x.testBit i && r.z.testBit j && !(r.z.testBit i ^^ r.x.testBit j)).toNat, r.x ^^^ (r.x.testBit i).toNat * 2 ^ j, r.z ^^^ (r.z.testBit j).toNat * 2 ^ i⟩
  | .swap => ⟨r.m, ex r.x i j, ex r.z i j⟩
def act (d : Dd) (r : Row) : Row := actW d.k (d.w.getD 0 0) (d.w.getD 1 0) r
def sp_bit_at (K : PySem.W.Frag) : Sp := fun vs H Q _ => ∃ n k : Nat, vs = [.int n, .int k] ∧ Q (.int (bI (n.testBit k))) H
def sp_exchanged (K : PySem.W.Frag) : Sp := fun vs H Q _ => ∃ n i j : Nat, vs = [.int n, .int i, .int j] ∧ i ≤ 1000 ∧ j ≤ 1000 ∧ Q (.int (ex n i j : Nat)) H
def sp_onrow (K : PySem.W.Frag) (CD : DK → Addr) (k : DK) : Sp := fun vs H Q _ => ∃ (a b : Addr) (d : Dd) (r : Row), vs = [.ref a, .ref b] ∧ d.k = k ∧ DdAt CD H a d ∧ (∀ x ∈ d.w, x ≤ 1000) ∧ SqT K H b r.V ∧ ∀ p H', Same H H' → H' p = some (.tup (act d r).V) → Q (.ref p) H'
abbrev sp_D_on_row (K : PySem.W.Frag) (CD : DK → Addr) (k : DK) : Sp := sp_onrow K CD k
abbrev sp_Over_on_row (K : PySem.W.Frag) (CD : DK → Addr) : Sp := sp_onrow K CD .over
abbrev sp_Quarter_on_row (K : PySem.W.Frag) (CD : DK → Addr) : Sp := sp_onrow K CD .quarter
abbrev sp_Back_on_row (K : PySem.W.Frag) (CD : DK → Addr) : Sp := sp_onrow K CD .back
abbrev sp_Both_on_row (K : PySem.W.Frag) (CD : DK → Addr) : Sp := sp_onrow K CD .both
abbrev sp_Where_on_row (K : PySem.W.Frag) (CD : DK → Addr) : Sp := sp_onrow K CD .wher
abbrev sp_Swap_on_row (K : PySem.W.Frag) (CD : DK → Addr) : Sp := sp_onrow K CD .swap
end Tw

set_option Elab.async false
set_option linter.all false
set_option maxRecDepth 100000
namespace Tw
/-! What rows and deeds do to one number of ups and downs: to do the row and then the deed is to do the deed and then what the row becomes. -/
theorem tb_mul (b : Bool) (i k : Nat) : (b.toNat * 2 ^ i).testBit k = (decide (i = k) && b) := by
  cases b with
  | false => simp
  | true => simp [Nat.testBit_two_pow]
/-- a quarter turn, q times -/
def turn (q : Nat) (p : Int × Int) : Int × Int :=
  if q % 4 = 0 then p else if q % 4 = 1 then (-p.2, p.1) else if q % 4 = 2 then (-p.1, -p.2) else (p.2, -p.1)
/-- the quarter turns of a row at the number b -/
def qq (r : Row) (b n : Nat) : Nat := 2 * r.m + 2 * cnt (fun i => r.z.testBit i && b.testBit i) n + cnt (fun i => r.x.testBit i && r.z.testBit i) n
def rowE (r : Row) (n : Nat) (e : Nat × Int × Int) : Nat × Int × Int := (e.1 ^^^ r.x, turn (qq r e.1 n) e.2)
/-- b with bit i let go -/
def clr (b i : Nat) : Nat := b - (b.testBit i).toNat * 2 ^ i
/-- what a deed makes of one number -/
def deedW (k : DK) (i j : Nat) (e : Nat × Int × Int) : List (Nat × Int × Int) :=
  match k with
  | .over => [(e.1 ^^^ 2 ^ i, e.2)]
  | .quarter => [(e.1, turn (e.1.testBit i).toNat e.2)]
  | .back => [(e.1, turn (3 * (e.1.testBit i).toNat) e.2)]
  | .both => [(clr e.1 i, e.2), (clr e.1 i + 2 ^ i, turn (2 * (e.1.testBit i).toNat) e.2)]
  | .wher => [(e.1 ^^^ (e.1.testBit i).toNat * 2 ^ j, e.2)]
  | .swap => [(clr (clr e.1 i) j + (e.1.testBit j).toNat * 2 ^ i + (e.1.testBit i).toNat * 2 ^ j, e.2)]
end Tw

set_option Elab.async false
set_option linter.all false
set_option maxRecDepth 100000
namespace Tw
open PySem L2
/-! Rows behind deeds: they stay rows of these wires; what stays. -/
end Tw

set_option Elab.async false
set_option linter.all false
set_option maxRecDepth 100000
namespace Tw
open PySem L2
/-! All but what stands at f stays. -/
def But (f : Addr) (H H' : Hp) : Prop := ∀ c o, c ≠ f → H c = some o → H' c = some o
theorem But.same {f : Addr} {H0 H H' : Hp} (s : Same H0 H) (h : But f H H') (n : H0 f = none) : Same H0 H' := fun c o e => h c o (ne_of_none e n) (s c o e)
theorem But.upd {f : Addr} {H : Hp} {o : HO} : But f H (L2.upd H f o) := fun c u hc e => by rw [upd_ne hc]; exact e
end Tw

set_option Elab.async false
set_option linter.all false
set_option maxRecDepth 100000
namespace L2
open PySem PySem.Spec PyProof.Rows
/-! An exception out of a list comprehension: noted in the block, let go with its names, passed on by the def. -/
section
variable {M : Model} {A : Around} {E : Value → Shared → Prop} {s : Shared} {base : Heap} {env : Env} {outer : List Env} {L e : Addr} {cls a0 fl : Value}
end
/-- an exception in flight, its frame noted or not; ch: what may have changed beside -/
structure FlownA (P : Program) (w : World) (outer : List Env) (ch : List Addr) (H : Hp) (s : Shared) (E : XK) (ea : Addr) (cls : Value) (H' : Hp) (B : Heap) (s' : Shared) : Prop where
  os : s'.os = s.os
  bare : AllBare s'.gens
  un : Un (frs outer) ch H H' s.heap s'.heap
  hok : HOk P w H' s'.heap
  stay : B.StaysIn s'.heap
  new : B.get? ea = none
  frm : s'.heap.FunFrames B outer
  trc : ∃ a0 fl, s'.heap.TracedAtW B ea cls a0 fl
  old : ∀ b o, s.heap.get? b = some o → b ∉ frs outer → b ∉ ch → ∃ o', B.get? b = some o' ∧ (H b = none → o' = o)
  trk : ∀ b u o, H' b = some u → s'.heap.get? b = some o → B.get? b = some o
  want : E cls none H'
  al : Tw.AloneT ea s'.heap ∨ E cls (some 0) H'
def PassesA (X : Cx) (E : XK) : Prop := ∀ (pins : List (Addr × Obj)) (σ : St) (H : Hp) (s : Shared) (ch : List Addr) (ea : Addr) (cls : Value) (H' : Hp) (B : Heap) (s' : Shared), Inv X pins σ H s → (∀ b ∈ ch, b ∈ X.ex ∨ X.s₀.heap.objs.size ≤ b) →
  FlownA X.prog X.w X.stack ch H s E ea cls H' B s' → X.xe (.ref ea) s'
/-- what leaves the block -/
def BX (X : Cx) (E : XK) (scope : Scope) (x : Str) (C : Addr) (s : Shared) (H : Hp) (ex : List Addr) (e : Value) (s' : Shared) : Prop :=
  ∃ (pins : List (Addr × Obj)) (σ : St) (H3 : Hp) (s3 : Shared), Inv (X.comp X.N scope x C s H ex) pins σ H3 s3 ∧ CXE X.prog X.w X.stack H3 s3 E e s'
def Cx.compE (X : Cx) (E : XK) (scope : Scope) (x : Str) (C : Addr) (s : Shared) (H : Hp) (ex : List Addr) : Cx := (X.comp X.N scope x C s H ex).wish (BX X E scope x C s H ex)
section
variable {X : Cx} {scope : Scope} {x : Str} {px pos : Pos} {elt iter : Expr} {ifs : List Expr} {wi : TI} {tt : TT} {te : TE} {E : XK}
end
end L2

set_option Elab.async false
set_option linter.all false
set_option maxRecDepth 100000
namespace L2
open PySem PySem.Spec PyProof.Rows
/-! for x in reversed(xs): the list stays as it is. -/
/-- the list at a, n long, from its end -/
def ItB (K : PySem.W.Frag) (a : Addr) (n : Nat) : It :=
  ⟨fun i H => ∃ xs x, SqL K H a xs ∧ xs.length = n ∧ i < n ∧ xs[n - 1 - i]? = some x, fun i H x H' => H' = H ∧ ∀ xs, SqL K H a xs → xs[n - 1 - i]? = some x, fun i _ => n ≤ i⟩
def iRev (K : PySem.W.Frag) (ta : TA) : TI := fun σ H R => ta σ H fun vs H1 => ∃ a xs, vs = [.ref a] ∧ SqL K H1 a xs ∧ R (ItB K a xs.length) H1
section
variable {X : Cx} {tg : Expr}
end
section
variable {K : PySem.W.Frag} {a : Addr} {xs : List V} {g : TG} {tb : TS} {D : Ends} {σ : St} {H : Hp}
end
/-- a comprehension over a list that the block leaves as it is -/
theorem comp_lst {K : PySem.W.Frag} {a : Addr} {xs : List V} {tt : TT} {te : TE} {Q : VK} {σ : St} {H : Hp} (Pv : Nat → List V → Hp → Prop) (hn : xs.length ≤ 1000) (h0 : Pv 0 [] H) (hl : ∀ i ys H, Pv i ys H → ys.length ≤ i) (hk : ∀ i ys H, Pv i ys H → SqL K H a xs)
    (hs : ∀ i x ys H, xs[i]? = some x → Pv i ys H → tt (some x :: σ) H fun b H2 => if b = true then te (some x :: σ) H2 fun y H3 => Pv (i + 1) (ys ++ [y]) H3 else Pv (i + 1) ys H2)
    (hd : ∀ ys H, Pv xs.length ys H → ∀ p, H p = none → Q (.ref p) (upd H p (.lst ys))) :
    ∃ W : Nat → Nat → List V → Hp → Prop, (∃ m, W 0 m [] H) ∧ ∀ i m ys H, W i m ys H → ((Itl K a).stop i H ∧ ∀ p, H p = none → Q (.ref p) (upd H p (.lst ys))) ∨
      ((Itl K a).go i H ∧ ys.length < sizeLine ∧ ∃ N : List V → Hp → Prop, (∀ ys' H', N ys' H' → ∃ m', m' < m ∧ W (i + 1) m' ys' H') ∧
        ∀ x H', (Itl K a).yld i H x H' → tt (some x :: σ) H' fun b H2 => if b = true then te (some x :: σ) H2 fun y H3 => N (ys ++ [y]) H3 else N ys H2) := by
  refine ⟨fun i m ys H => m = xs.length - i ∧ i ≤ xs.length ∧ Pv i ys H, ⟨xs.length, by simp, Nat.zero_le _, h0⟩, ?_⟩
  rintro i m ys H ⟨rfl, hi, p⟩
  by_cases hlt : i < xs.length
  · refine .inr ⟨⟨xs, xs[i], hk i ys H p, by simp [hlt]⟩, small1000 (by have := hl i ys H p; omega), Pv (i + 1), fun ys' H' p' => ⟨xs.length - (i + 1), by omega, rfl, hlt, p'⟩, fun x H' y => ?_⟩
    obtain ⟨e, y⟩ := y
    subst e
    exact hs i x ys _ (y xs (hk i ys _ p)) p
  · have e : i = xs.length := by omega
    subst e
    exact .inl ⟨⟨xs, hk _ ys H p, Nat.le_refl _⟩, hd ys H p⟩
theorem st_comp_lst {K : PySem.W.Frag} {a : Addr} {xs : List V} {tl : TE} {tt : TT} {te : TE} {Q : VK} {σ : St} {H : Hp} (e : ∀ P : V → Hp → Prop, P (.ref a) H → tl σ H P) (s : SqL K H a xs) (Pv : Nat → List V → Hp → Prop) (hn : xs.length ≤ 1000) (h0 : Pv 0 [] H) (hl : ∀ i ys H, Pv i ys H → ys.length ≤ i) (hk : ∀ i ys H, Pv i ys H → SqL K H a xs)
    (hs : ∀ i x ys H, xs[i]? = some x → Pv i ys H → tt (some x :: σ) H fun b H2 => if b = true then te (some x :: σ) H2 fun y H3 => Pv (i + 1) (ys ++ [y]) H3 else Pv (i + 1) ys H2)
    (hd : ∀ ys H, Pv xs.length ys H → ∀ p, H p = none → Q (.ref p) (upd H p (.lst ys))) : tComp (iList K tl) tt te σ H Q :=
  e _ ⟨a, rfl, ⟨xs, s⟩, comp_lst Pv hn h0 hl hk hs hd⟩
end L2

set_option Elab.async false
set_option linter.all false
set_option maxRecDepth 100000
namespace Tw
/-! A deed and what undoes it, on rows. -/
def Dd.inv (d : Dd) : Dd := ⟨d.k.inv, d.w⟩
def acts (ds : List Dd) (r : Row) : Row := ds.foldl (fun r d => act d r) r
def undo (ds : List Dd) : List Dd := (ds.map Dd.inv).reverse
end Tw

set_option Elab.async false
set_option linter.all false
set_option maxRecDepth 100000
namespace Tw
open PySem L2
/-! Works: lists of words, lists of deeds. -/
inductive All2 {α β : Type} (R : α → β → Prop) : List α → List β → Prop
  | nil : All2 R [] []
  | cons {a b as bs} (h : R a b) (t : All2 R as bs) : All2 R (a :: as) (b :: bs)
section
variable {α β : Type} {R R' : α → β → Prop} {as cs : List α} {bs ds : List β}
theorem All2.mono (k : ∀ a b, R a b → R' a b) : ∀ {as : List α} {bs : List β}, All2 R as bs → All2 R' as bs
  | _, _, .nil => .nil
  | _, _, .cons h t => .cons (k _ _ h) (t.mono k)
theorem All2.len : ∀ {as : List α} {bs : List β}, All2 R as bs → as.length = bs.length
  | _, _, .nil => rfl
  | _, _, .cons _ t => by rw [List.length_cons, List.length_cons, t.len]
theorem All2.get : ∀ {as : List α} {bs : List β}, All2 R as bs → ∀ {i : Nat} {a : α}, as[i]? = some a → ∃ b, bs[i]? = some b ∧ R a b
  | _, _, .nil, _, _, e => by cases e
  | _, _, .cons h t, 0, _, e => by cases e; exact ⟨_, rfl, h⟩
  | _, _, .cons _ t, i + 1, _, e => t.get (i := i) (by simpa using e)
theorem All2.app : ∀ {as : List α} {bs : List β}, All2 R as bs → All2 R cs ds → All2 R (as ++ cs) (bs ++ ds)
  | _, _, .nil, h => h
  | _, _, .cons x t, h => .cons x (t.app h)
theorem All2.snoc {a : α} {b : β} (h : All2 R as bs) (x : R a b) : All2 R (as ++ [a]) (bs ++ [b]) := h.app (.cons x .nil)
end
/-- the words of d stand at a -/
def Wt (H : Hp) (a : Addr) (d : Dd) : Prop := H a = some (.tup (.str d.k.word :: vn d.w))
abbrev refs (as : List Addr) : List V := as.map V.ref
def WkAt (H : Hp) (l : Addr) (ds : List Dd) : Prop := ∃ as, H l = some (.lst (refs as)) ∧ All2 (Wt H) as ds
def DsAt (CD : DK → Addr) (H : Hp) (l : Addr) (ds : List Dd) : Prop := ∃ as, H l = some (.lst (refs as)) ∧ All2 (DdAt CD H) as ds
/-! equal works -/
def wD (d : Dd) : PyData := .tuple ((V.str d.k.word :: vn d.w).map dV)
section
variable {K : PySem.W.Frag} {H : Hp} {Q : VK} {a b : Addr} {as bs : List Addr} {ds : List Dd}
end
theorem refs_get {as : List Addr} {i : Nat} {x : V} (h : (refs as)[i]? = some x) : ∃ a, as[i]? = some a ∧ x = .ref a := by
  unfold refs at h
  rw [List.getElem?_map] at h
  cases e : as[i]? with
  | none => rw [e] at h; cases h
  | some a => rw [e] at h; exact ⟨a, rfl, (Option.some.inj h).symm⟩
theorem refs_len (as : List Addr) : (refs as).length = as.length := List.length_map _
end Tw

set_option Elab.async false
set_option linter.all false
set_option maxRecDepth 100000
namespace L2
open PySem PySem.Spec PyProof.Rows
/-! Products of wide numbers; a comprehension over what a call hands back. -/
def CMulW (i j : Int) : Prop := i.natAbs < 2 ^ 300 ∧ j.natAbs < 2 ^ 300
theorem bits300 {k : Int} (h : k.natAbs < 2 ^ 300) : Builtin.Int.intBits k ≤ 300 := by
  unfold Builtin.Int.intBits
  split
  · exact Nat.zero_le _
  · rcases Nat.eq_zero_or_pos k.natAbs with z | z
    · rw [z]; decide
    · exact (Nat.log2_lt (Nat.ne_of_gt z)).mpr h
theorem op_mulW {X : Cx} : OpR X (binaryOp .Mult) (rI CMulW fun i j => .int (i * j)) := opI fun _ _ _ _ _ _ _ hc q => mul_int q (IntMulOk.of_bits (Nat.le_trans (bits300 hc.1) (by decide)) (Nat.le_trans (bits300 hc.2) (by decide)))
section
variable {K : PySem.W.Frag} {a : Addr} {xs : List V} {tl : TE} {tt : TT} {te : TE} {Q : VK} {σ : St} {H : Hp}
def sCompL (K : PySem.W.Frag) (tt : TT) (te : TE) (σ : St) (Q : VK) : V → Hp → Prop := fun x H => ∃ a, x = .ref a ∧ (∃ xs, SqL K H a xs) ∧ ∃ W : Nat → Nat → List V → Hp → Prop, (∃ m, W 0 m [] H) ∧ ∀ i m ys H, W i m ys H → ((Itl K a).stop i H ∧ ∀ p, H p = none → Q (.ref p) (upd H p (.lst ys))) ∨
      ((Itl K a).go i H ∧ ys.length < sizeLine ∧ ∃ N : List V → Hp → Prop, (∀ ys' H', N ys' H' → ∃ m', m' < m ∧ W (i + 1) m' ys' H') ∧
        ∀ x H', (Itl K a).yld i H x H' → tt (some x :: σ) H' fun b H2 => if b = true then te (some x :: σ) H2 fun y H3 => N (ys ++ [y]) H3 else N ys H2)
theorem st_cpE (h : tl σ H (sCompL K tt te σ Q)) : tComp (iList K tl) tt te σ H Q := h
theorem st_cpAt (s : SqL K H a xs) (Pv : Nat → List V → Hp → Prop) (hn : xs.length ≤ 1000) (h0 : Pv 0 [] H) (hl : ∀ i ys H, Pv i ys H → ys.length ≤ i) (hk : ∀ i ys H, Pv i ys H → SqL K H a xs)
    (hs : ∀ i x ys H, xs[i]? = some x → Pv i ys H → tt (some x :: σ) H fun b H2 => if b = true then te (some x :: σ) H2 fun y H3 => Pv (i + 1) (ys ++ [y]) H3 else Pv (i + 1) ys H2)
    (hd : ∀ ys H, Pv xs.length ys H → ∀ p, H p = none → Q (.ref p) (upd H p (.lst ys))) : sCompL K tt te σ Q (.ref a) H := ⟨a, rfl, ⟨xs, s⟩, comp_lst Pv hn h0 hl hk hs hd⟩
end
end L2
namespace Tw
open PySem L2
/-! Lists of rows. -/
/-- the row r stands at a -/
def Rt (K : PySem.W.Frag) (H : Hp) (a : Addr) (r : Row) : Prop := H a = some (.tup r.V)
def rD (r : Row) : PyData := .tuple (r.V.map dV)
theorem row_okV (r : Row) : r.V.all okV = true := rfl
section
variable {K : PySem.W.Frag} {H : Hp} {Q : VK} {a b : Addr} {as bs : List Addr} {rs : List Row}
end
theorem Rt.same {K : PySem.W.Frag} {H H' : Hp} {a : Addr} {r : Row} (s : Same H H') (h : Rt K H a r) : Rt K H' a r := s _ _ h
theorem refs_snoc (as : List Addr) (a : Addr) : refs as ++ [.ref a] = refs (as ++ [a]) := by unfold refs; rw [List.map_append]; rfl
theorem none_of {H H' : Hp} {p : Addr} (s : Same H H') (h : H' p = none) : H p = none := by
  cases e : H p with
  | none => rfl
  | some o => rw [s _ _ e] at h; cases h
/-- the rows of one letter, on n wires -/
def singles : Nat → List Row
  | 0 => []
  | k + 1 => singles k ++ [⟨0, 0, 2 ^ k⟩, ⟨0, 2 ^ k, 0⟩]
end Tw

set_option Elab.async false
set_option linter.all false
set_option maxRecDepth 100000
namespace L2
open PySem PySem.Spec PyProof.Rows
/-! for i, x in enumerate(xs): the list stays as it is. -/
def ItEn (K : PySem.W.Frag) (a : Addr) (n : Nat) : It :=
  ⟨fun i H => ∃ xs x, SqL K H a xs ∧ xs.length = n ∧ xs[i]? = some x, fun i H x H' => ∃ T v, H T = none ∧ x = .ref T ∧ (∀ xs, SqL K H a xs → xs[i]? = some v) ∧ H' = upd H T (.tup [.int (i : Int), v]), fun i H => ∃ xs, SqL K H a xs ∧ xs.length = n ∧ n ≤ i⟩
section
variable {X : Cx} {tg : Expr}
def iEnumL (K : PySem.W.Frag) (ta : TA) : TI := fun σ H R => ta σ H fun vs H1 => ∃ a xs, vs = [.ref a] ∧ SqL K H1 a xs ∧ R (ItEn K a xs.length) H1
end
section
variable {K : PySem.W.Frag} {a : Addr} {xs : List V} {g : TG} {tb : TS} {D : Ends} {σ : St} {H : Hp}
def sForEn (K : PySem.W.Frag) (g : TG) (tb : TS) (D : Ends) (σ : St) : List V → Hp → Prop := fun vs H1 => ∃ a xs, vs = [.ref a] ∧ SqL K H1 a xs ∧ ∃ W : Nat → Nat → St → Hp → Prop, (∃ m, W 0 m σ H1) ∧ ∀ i m σ H, W i m σ H →
  ((ItEn K a xs.length).stop i H ∧ D.nx σ H) ∨ ((ItEn K a xs.length).go i H ∧ ∃ N : St → Hp → Prop, (∀ σ' H', N σ' H' → ∃ m', m' < m ∧ W (i + 1) m' σ' H') ∧ ∀ x H', (ItEn K a xs.length).yld i H x H' → g x σ H' fun σ2 H2 => tb { D with nx := N, ct := N, bk := D.nx } σ2 H2)
end
end L2

set_option Elab.async false
set_option linter.all false
set_option maxRecDepth 100000
namespace Tw
/-! Works that part: a letter, its rival, and the wires that are turned. -/
def bothD (j : Nat) : Dd := ⟨.both, [j]⟩
/-- a letter on the wire k: z, or x -/
def letter (x : Bool) (k : Nat) : Row := if x then ⟨0, 2 ^ k, 0⟩ else ⟨0, 0, 2 ^ k⟩
/-- the wires that are turned: those of the rival's z beside k, and k for an x -/
structure Turned (x : Bool) (k n : Nat) (rv : Row) (js : List Nat) : Prop where
  nd : js.Nodup
  at_k : k ∈ js ↔ x = true
  off_k : ∀ j, j ≠ k → (j ∈ js ↔ j < n ∧ rv.z.testBit j = true)
/-! rows compared, whatever they are -/
open PySem L2 in
open PySem L2 in
section
open PySem L2
variable {K : PySem.W.Frag} {H : Hp} {Q : VK} {a b : Addr} {as bs : List Addr} {rs ss : List Row} {r s : Row}
end
theorem All2.get' {α β : Type} {R : α → β → Prop} : ∀ {as : List α} {bs : List β}, All2 R as bs → ∀ {i : Nat} {b : β}, bs[i]? = some b → ∃ a, as[i]? = some a ∧ R a b
  | _, _, .nil, _, _, e => by cases e
  | _, _, .cons h t, 0, _, e => by cases e; exact ⟨_, rfl, h⟩
  | _, _, .cons _ t, i + 1, _, e => t.get' (i := i) (by simpa using e)
/-- the wires beside k where the rival has a z, below i -/
def tj (rv : Row) (k i : Nat) : List Nat := (List.range i).filter fun j => decide (j ≠ k) && rv.z.testBit j
end Tw

set_option Elab.async false
set_option linter.all false
set_option maxRecDepth 100000
namespace L2
open PySem PySem.Spec PyProof.Rows
section
variable {X : Cx}
end
section
variable {K : PySem.W.Frag} {H : Hp} {Q : VK} {l : Addr} {xs : List V} {k : Int}
end
end L2
namespace Tw
open PySem L2
section
variable {K : PySem.W.Frag} {H : Hp} {Q : VK} {a b a1 a2 b1 b2 : Addr} {as as' bs bs' : List Addr} {ds es : List Dd}
end
theorem cut_intsG (ns : List Int) (lo hi : Nat) : ∃ ms : List Int, cutV (ns.map V.int) (some (lo : Int)) (some (hi : Int)) = ms.map V.int ∧ ms.length ≤ hi - lo := by
  refine ⟨(ns.drop (min lo ns.length)).take (min hi ns.length - min lo ns.length), ?_, by rw [List.length_take, List.length_drop]; omega⟩
  unfold cutV
  rw [HT.sIx_nat, HT.sIx_nat, List.length_map, List.map_take, List.map_drop]
end Tw

set_option Elab.async false
set_option linter.all false
set_option maxRecDepth 100000
namespace L2
open PySem PySem.Spec PyProof.Rows
/-! any, insert, slices with a step, sorted of a list -/
section
variable {X : Cx}
def rAny (K : PySem.W.Frag) : List V → Hp → VK → Prop := fun xs H Q => ∃ (p : Addr) (bs : List Bool), xs = [.ref p] ∧ SqL K H p (bs.map V.bl) ∧ Q (.bl (bs.any id)) H
/-- xs.insert(i, y), i not below nought -/
def rInsert : V → List V → Hp → VK → Prop := fun x vs H Q => ∃ l xs y, ∃ i : Nat, x = .ref l ∧ vs = [.int (i : Int), y] ∧ H l = some (.lst xs) ∧ i ≤ xs.length ∧ xs.length ≤ 1000 ∧ Q .non (upd H l (.lst (xs.take i ++ y :: xs.drop i)))
theorem vals_ins : ∀ {xs : List V} {its : List Value} {y : V} {u : Value}, Vals xs its → RelV y u → ∀ i, Vals (xs.take i ++ y :: xs.drop i) (its.take i ++ u :: its.drop i)
  | _, _, _, _, r, ry, 0 => .cons ry r
  | _, _, _, _, .nil, ry, i + 1 => .cons ry .nil
  | _, _, _, _, .cons h t, ry, i + 1 => .cons h (vals_ins t ry i)
theorem vals_two {x y : V} {us : List Value} (r : Vals [x, y] us) : ∃ u v, us = [u, v] ∧ RelV x u ∧ RelV y v := by
  cases r with
  | cons h1 r =>
    cases r with
    | cons h2 r =>
      cases r
      exact ⟨_, _, rfl, h1, h2⟩
theorem mt_insert : MtM X "list.insert" rInsert := by
  intro pins s σ H x vs v us Q I rx rv h
  obtain ⟨l, xs, y, i, rfl, rfl, hH, hi, hz, q⟩ := h
  cases rx
  obtain ⟨u1, u, rfl, r1, r2⟩ := vals_two rv
  obtain ⟨t, rfl⟩ := r1
  obtain ⟨z, its, n, r, hl, e⟩ := I.lstM hH
  have hlen := r.length
  have hb : Builtin.List.listFitsIndex (i : Int) = true := fitsIndex_both (by omega) (by omega)
  have hsz : its.toArray.size ≤ sizeLine := by
    rw [List.size_toArray, ← hlen]
    exact Nat.le_of_lt (small1000 hz)
  have ej : ∃ j : Int, j = (i : Int) := ⟨_, rfl⟩
  obtain ⟨j, ej⟩ := ej
  rw [← ej] at hb ⊢
  refine call_meets PySem.F.slot_list_insert ⟨_, e, rfl⟩ PySem.F.entry_list_insert (PySem.F.args_list_insert_3 _ _ _) (PySem.AutoSeq1.list_insert_list_int_val_1 l its.toArray n j t u (by rw [hb]; decide) hsz) ⟨e, ?_⟩
  refine ⟨.non, _, I.lset (its' := its.take i ++ u :: its.drop i) hH e ?_ (vals_ins r r2 i) ?_, rfl, q⟩
  · have hk : (if j < 0 then (j + ((its.toArray.size : Nat) : Int)).toNat else min j.toNat its.toArray.size) = i := by
      have e2 : its.toArray.size = its.length := List.size_toArray
      rw [if_neg (by omega), e2]
      omega
    show ((its.toArray.extract 0 _).push u ++ its.toArray.extract _) = _
    rw [hk]
    apply Array.ext'
    simp
    exact List.take_of_length_le (by rw [List.length_drop]; exact Nat.le_refl _)
  · rw [List.length_append, List.length_cons, List.length_take, List.length_drop]
    have := small1000 (n := xs.length) hz
    omega
def rSortL (K : PySem.W.Frag) : List V → Hp → VK → Prop := fun xs H Q => ∃ (p : Addr) (ns : List Int), xs = [.ref p] ∧ SqL K H p (ns.map V.int) ∧ ns.length < 64 ∧ ∀ l (ms : List Int), H l = none → ms.Perm ns → ms.Pairwise (· ≤ ·) → Q (.ref l) (upd H l (.lst (ms.map V.int)))
/-- xs[lo:hi:st] of a list of whole numbers: some of them, in a new list -/
def rSlStep (K : PySem.W.Frag) : V → Hp → VK → Prop := fun x H Q => ∃ a, ∃ ns : List Int, x = .ref a ∧ SqL K H a (ns.map V.int) ∧ ∀ p (ms : List Int), H p = none → ms.length ≤ ns.length → (∀ m ∈ ms, m ∈ ns) → Q (.ref p) (upd H p (.lst (ms.map V.int)))
end
section
variable {X : Cx} {e : Expr} {lo hi : Option Expr} {st : Expr} {te ts : TE} {tl th : TO} {p2 pos : Pos}
def tSl3 (K : PySem.W.Frag) (te : TE) (tl th : TO) (ts : TE) : TE := fun σ H Q => te σ H fun x H1 => tl σ H1 fun l H2 => th σ H2 fun u H3 => ts σ H3 fun y H4 => ∃ i : Int, y = .int i ∧ i ≠ 0 ∧ rSlStep K x H4 Q
end
section
variable {K : PySem.W.Frag} {a : Addr} {xs : List V} {ta : TA} {tt : TT} {te : TE} {Q : VK} {σ : St} {H : Hp}
end
/-! if in a try -/
end L2
namespace Tw
open PySem PySem.Spec L2
/-! works of any flat tuples, compared -/
def Ft (H : Hp) (a : Addr) (xs : List V) : Prop := H a = some (.tup xs) ∧ xs.all okV = true
theorem dvs_ft {K : PySem.W.Frag} {H : Hp} : ∀ {as : List Addr} {xss : List (List V)}, All2 (Ft H) as xss → DVs K H (refs as) (xss.map fun xs => PyData.tuple (xs.map dV))
  | _, _, .nil => .nil
  | _, _, .cons h t => .cons (.tup (SqT.of h.1) (dvs_flat h.2)) (dvs_ft t)
theorem lay_ft {H : Hp} : ∀ {as : List Addr} {xss : List (List V)}, All2 (Ft H) as xss → PyData.canLayAll0 (xss.map fun xs => PyData.tuple (xs.map dV)) = true
  | _, _, .nil => rfl
  | _, _, .cons (b := xs) h t => by
    have h1 : (PyData.tuple (xs.map dV)).canLay0 = true := by
      rw [PyData.canLay0]
      exact dVs_lay h.2
    simp [PyData.canLayAll0, h1, lay_ft t]
theorem depth_ft : ∀ {xss : List (List V)}, PyData.depthAll (xss.map fun xs => PyData.tuple (xs.map dV)) ≤ 1
  | [] => by simp [PyData.depthAll]
  | xs :: r => by
    have h1 : (PyData.tuple (xs.map dV)).depth ≤ 1 := by
      simp only [PyData.depth, dVs_depth]
      omega
    have h2 := depth_ft (xss := r)
    simp only [List.map_cons, PyData.depthAll]
    omega
theorem eqv_ft {H : Hp} : ∀ {as : List Addr} {xss : List (List V)}, All2 (Ft H) as xss → PyData.eqvAll (xss.map fun xs => PyData.tuple (xs.map dV)) (xss.map fun xs => PyData.tuple (xs.map dV)) = true
  | _, _, .nil => rfl
  | _, _, .cons (b := xs) h t => by
    have h1 : PyData.eqv (PyData.tuple (xs.map dV)) (PyData.tuple (xs.map dV)) = true := by
      rw [PyData.eqv, dVs_eqv]
    simp [PyData.eqvAll, h1, eqv_ft t]
section
variable {K : PySem.W.Frag} {H : Hp} {Q : VK} {a b : Addr} {as bs : List Addr} {xs ys : List (List V)}
theorem shaped_ft (h : All2 (Ft H) as xs) : SeqAt.shaped (.list (xs.map fun xs => PyData.tuple (xs.map dV))) = true := by
  have h2 := depth_ft (xss := xs)
  unfold SeqAt.shaped
  rw [PyData.canLay0, PyData.depth, lay_ft h, Bool.true_and, decide_eq_true_eq]
  omega
end
end Tw

set_option Elab.async false
set_option linter.all false
set_option maxRecDepth 100000
namespace Tw
open PySem L2
/-! Sums of numbers without carrying: which of them are sums of which. -/
def xsel : List Nat → Nat → Nat
  | [], _ => 0
  | v :: vs, w => (if w.testBit 0 = true then v else 0) ^^^ xsel vs (w / 2)
theorem xsel_zero : ∀ vs : List Nat, xsel vs 0 = 0
  | [] => rfl
  | v :: vs => by
    show (if (0 : Nat).testBit 0 = true then v else 0) ^^^ xsel vs (0 / 2) = 0
    rw [Nat.zero_div, xsel_zero vs, if_neg (by decide)]
    rfl
theorem if_xor (a b : Bool) (v : Nat) : (if (a ^^ b) = true then v else 0) = (if a = true then v else 0) ^^^ (if b = true then v else 0) := by
  cases a <;> cases b <;> simp
theorem x4 (a b c d : Nat) : (a ^^^ b) ^^^ (c ^^^ d) = (a ^^^ c) ^^^ (b ^^^ d) := by
  rw [Nat.xor_assoc, Nat.xor_assoc]
  congr 1
  rw [← Nat.xor_assoc, ← Nat.xor_assoc, Nat.xor_comm b c]
theorem xsel_xor : ∀ (vs : List Nat) (a b : Nat), xsel vs (a ^^^ b) = xsel vs a ^^^ xsel vs b
  | [], _, _ => (Nat.xor_self 0).symm
  | v :: vs, a, b => by
    show (if (a ^^^ b).testBit 0 = true then v else 0) ^^^ xsel vs ((a ^^^ b) / 2) = _
    rw [Nat.testBit_xor, if_xor, show (a ^^^ b) / 2 = (a / 2) ^^^ (b / 2) from Nat.xor_div_two, xsel_xor vs]
    exact x4 _ _ _ _
theorem xsel_snoc : ∀ (vs : List Nat) (v w : Nat), xsel (vs ++ [v]) w = xsel vs w ^^^ (if w.testBit vs.length = true then v else 0)
  | [], v, w => by
    show (if w.testBit 0 = true then v else 0) ^^^ 0 = 0 ^^^ _
    rw [Nat.xor_zero, Nat.zero_xor]
    rfl
  | u :: vs, v, w => by
    show (if w.testBit 0 = true then u else 0) ^^^ xsel (vs ++ [v]) (w / 2) = ((if w.testBit 0 = true then u else 0) ^^^ xsel vs (w / 2)) ^^^ _
    rw [xsel_snoc vs v (w / 2), Nat.xor_assoc]
    congr 2
    rw [List.length_cons, Nat.testBit_succ]
theorem xsel_pow : ∀ {vs : List Nat} {k v : Nat}, vs[k]? = some v → xsel vs (2 ^ k) = v
  | [], _, _, h => by cases h
  | u :: vs, 0, v, h => by
    obtain rfl : u = v := Option.some.inj h
    show (if (2 ^ 0 : Nat).testBit 0 = true then u else 0) ^^^ xsel vs ((2 ^ 0) / 2) = u
    rw [show (2 ^ 0 : Nat) / 2 = 0 from rfl, xsel_zero, Nat.xor_zero]
    rfl
  | u :: vs, k + 1, v, h => by
    show (if (2 ^ (k + 1) : Nat).testBit 0 = true then u else 0) ^^^ xsel vs ((2 ^ (k + 1)) / 2) = v
    rw [show (2 ^ (k + 1) : Nat) / 2 = 2 ^ k by rw [Nat.pow_succ]; omega, xsel_pow (show vs[k]? = some v from h), show (2 ^ (k + 1) : Nat).testBit 0 = false by rw [Nat.testBit_zero, Nat.pow_succ]; simp]
    simp
theorem xsel_bit {j : Nat} : ∀ {vs : List Nat} (w : Nat), (∀ v ∈ vs, v.testBit j = false) → (xsel vs w).testBit j = false
  | [], _, _ => Nat.zero_testBit _
  | v :: vs, w, h => by
    show (_ ^^^ xsel vs (w / 2)).testBit j = false
    rw [Nat.testBit_xor, xsel_bit (w / 2) fun u hu => h u (List.mem_cons_of_mem _ hu)]
    have := h v List.mem_cons_self
    split <;> simp [this]
theorem xsel_lt {n : Nat} : ∀ {vs : List Nat} (w : Nat), (∀ v ∈ vs, v < 2 ^ n) → xsel vs w < 2 ^ n
  | [], _, _ => Nat.two_pow_pos n
  | v :: vs, w, h => by
    refine Nat.xor_lt_two_pow ?_ (xsel_lt (w / 2) fun u hu => h u (List.mem_cons_of_mem _ hu))
    split
    · exact h v List.mem_cons_self
    · exact Nat.two_pow_pos n
/-- a sum kept: its lead's place, itself, its parts -/
structure Sm where
  j : Nat
  t : Nat
  p : Nat
def red : List Sm → Nat → Nat → Nat × Nat
  | [], l, w => (l, w)
  | s :: r, l, w => if l.testBit s.j = true then red r (l ^^^ s.t) (w ^^^ s.p) else red r l w
def Tot (ss : List Sm) (x : Nat) : Prop := ∃ m, xsel (ss.map Sm.t) m = x
theorem Tot.zero (ss : List Sm) : Tot ss 0 := ⟨0, xsel_zero _⟩
theorem Tot.xor {ss : List Sm} {x y : Nat} (a : Tot ss x) (b : Tot ss y) : Tot ss (x ^^^ y) := by
  obtain ⟨m, rfl⟩ := a
  obtain ⟨k, rfl⟩ := b
  exact ⟨m ^^^ k, xsel_xor _ _ _⟩
theorem Tot.mem {ss : List Sm} {s : Sm} (h : s ∈ ss) : Tot ss s.t := by
  obtain ⟨k, hk⟩ := List.getElem?_of_mem h
  exact ⟨2 ^ k, xsel_pow (by rw [List.getElem?_map, hk]; rfl)⟩
theorem Tot.snoc {ss : List Sm} {x : Nat} (s : Sm) (h : Tot ss x) : Tot (ss ++ [s]) x := by
  obtain ⟨m, rfl⟩ := h
  refine ⟨m % 2 ^ ss.length, ?_⟩
  rw [List.map_append, List.map_singleton, xsel_snoc, List.length_map, Nat.testBit_mod_two_pow]
  simp only [Nat.lt_irrefl, decide_false, Bool.false_and, Bool.false_eq_true, if_false, Nat.xor_zero]
  rw [← List.length_map (as := ss) (f := Sm.t)]
  generalize ss.map Sm.t = vs
  induction vs generalizing m with
  | nil => rfl
  | cons v vs ih =>
    show (if (m % 2 ^ (vs.length + 1)).testBit 0 = true then v else 0) ^^^ xsel vs (m % 2 ^ (vs.length + 1) / 2) = (if m.testBit 0 = true then v else 0) ^^^ xsel vs (m / 2)
    have h1 : (m % 2 ^ (vs.length + 1)).testBit 0 = m.testBit 0 := by rw [Nat.testBit_mod_two_pow]; simp
    have h2 : m % 2 ^ (vs.length + 1) / 2 = (m / 2) % 2 ^ vs.length := by
      rw [Nat.pow_succ, Nat.mul_comm, Nat.mod_mul_right_div_self]
    rw [h1, h2, ih]
structure SpOk (vs : List Nat) (ss : List Sm) : Prop where
  tot : ∀ s ∈ ss, s.t = xsel vs s.p
  lt : ∀ s ∈ ss, s.p < 2 ^ vs.length
  bit : ∀ s ∈ ss, s.t.testBit s.j = true
  ord : ss.Pairwise fun a b => b.t.testBit a.j = false
  cov : ∀ w, Tot ss (xsel vs w)
theorem red_ok {vs : List Nat} : ∀ {ss : List Sm} {l w : Nat}, (∀ s ∈ ss, s.t = xsel vs s.p) → (∀ s ∈ ss, s.p < 2 ^ vs.length) → ∃ p, p < 2 ^ vs.length ∧ (red ss l w).1 = l ^^^ xsel vs p ∧ (red ss l w).2 = w ^^^ p ∧ Tot ss (xsel vs p)
  | [], l, w, _, _ => ⟨0, Nat.two_pow_pos _, by rw [xsel_zero, Nat.xor_zero]; rfl, by rw [Nat.xor_zero]; rfl, by rw [xsel_zero]; exact Tot.zero _⟩
  | s :: r, l, w, h1, h2 => by
    have g1 : ∀ t ∈ r, t.t = xsel vs t.p := fun t ht => h1 t (List.mem_cons_of_mem _ ht)
    have g2 : ∀ t ∈ r, t.p < 2 ^ vs.length := fun t ht => h2 t (List.mem_cons_of_mem _ ht)
    have up : ∀ {x}, Tot r x → Tot (s :: r) x := fun {x} ⟨m, e⟩ => ⟨2 * m, by
      show (if (2 * m).testBit 0 = true then s.t else 0) ^^^ xsel (r.map Sm.t) (2 * m / 2) = x
      rw [Nat.mul_div_cancel_left _ (by decide), e, show (2 * m).testBit 0 = false by simp [Nat.testBit_zero]]
      simp⟩
    unfold red
    split
    · obtain ⟨p, a1, a2, a3, a4⟩ := red_ok (l := l ^^^ s.t) (w := w ^^^ s.p) g1 g2
      refine ⟨s.p ^^^ p, Nat.xor_lt_two_pow (h2 s List.mem_cons_self) a1, ?_, ?_, ?_⟩
      · rw [a2, xsel_xor, ← h1 s List.mem_cons_self, Nat.xor_assoc]
      · rw [a3, Nat.xor_assoc]
      · rw [xsel_xor, ← h1 s List.mem_cons_self]
        exact (Tot.mem List.mem_cons_self).xor (up a4)
    · obtain ⟨p, a1, a2, a3, a4⟩ := red_ok (l := l) (w := w) g1 g2
      exact ⟨p, a1, a2, a3, up a4⟩
theorem red_keeps {j : Nat} : ∀ {ss : List Sm} {l w : Nat}, (∀ s ∈ ss, s.t.testBit j = false) → l.testBit j = false → ((red ss l w).1).testBit j = false
  | [], _, _, _, h => h
  | s :: r, l, w, h1, h => by
    unfold red
    split
    · exact red_keeps (fun t ht => h1 t (List.mem_cons_of_mem _ ht)) (by rw [Nat.testBit_xor, h, h1 s List.mem_cons_self]; rfl)
    · exact red_keeps (fun t ht => h1 t (List.mem_cons_of_mem _ ht)) h
theorem red_free : ∀ {ss : List Sm} {l w : Nat}, (∀ s ∈ ss, s.t.testBit s.j = true) → ss.Pairwise (fun a b => b.t.testBit a.j = false) → ∀ s ∈ ss, ((red ss l w).1).testBit s.j = false
  | [], _, _, _, _, s, hs => by cases hs
  | u :: r, l, w, h1, h2, s, hs => by
    obtain ⟨o1, o2⟩ := List.pairwise_cons.1 h2
    have g1 : ∀ t ∈ r, t.t.testBit t.j = true := fun t ht => h1 t (List.mem_cons_of_mem _ ht)
    unfold red
    rcases List.mem_cons.1 hs with rfl | hs
    · split
      · rename_i hb
        exact red_keeps o1 (by rw [Nat.testBit_xor, hb, h1 s List.mem_cons_self]; rfl)
      · rename_i hb
        exact red_keeps o1 (by simpa using hb)
    · split
      · exact red_free g1 o2 s hs
      · exact red_free g1 o2 s hs
theorem tot_zero : ∀ {ss : List Sm} {x : Nat}, (∀ s ∈ ss, s.t.testBit s.j = true) → ss.Pairwise (fun a b => b.t.testBit a.j = false) → Tot ss x → (∀ s ∈ ss, x.testBit s.j = false) → x = 0
  | [], x, _, _, ⟨m, e⟩, _ => e.symm
  | u :: r, x, h1, h2, ⟨m, e⟩, h3 => by
    obtain ⟨o1, o2⟩ := List.pairwise_cons.1 h2
    have e' : (if m.testBit 0 = true then u.t else 0) ^^^ xsel (r.map Sm.t) (m / 2) = x := e
    have hy : (xsel (r.map Sm.t) (m / 2)).testBit u.j = false := xsel_bit _ fun v hv => by
      obtain ⟨t, ht, rfl⟩ := List.mem_map.1 hv
      exact o1 t ht
    have hx := h3 u List.mem_cons_self
    by_cases hb : m.testBit 0 = true
    · rw [if_pos hb] at e'
      rw [← e', Nat.testBit_xor, hy, h1 u List.mem_cons_self] at hx
      cases hx
    · rw [if_neg hb, Nat.zero_xor] at e'
      exact tot_zero (fun t ht => h1 t (List.mem_cons_of_mem _ ht)) o2 ⟨m / 2, e'⟩ fun s hs => h3 s (List.mem_cons_of_mem _ hs)
theorem SpOk.nil : SpOk [] [] := ⟨fun _ h => (nomatch h), fun _ h => (nomatch h), fun _ h => (nomatch h), .nil, fun w => ⟨0, rfl⟩⟩
/-- one number more -/
theorem SpOk.take {vs : List Nat} {ss : List Sm} (h : SpOk vs ss) (v j : Nat) (hj : (red ss v (2 ^ vs.length)).1 ≠ 0 → (red ss v (2 ^ vs.length)).1.testBit j = true) :
    SpOk (vs ++ [v]) (if (red ss v (2 ^ vs.length)).1 ≠ 0 then ss ++ [⟨j, (red ss v (2 ^ vs.length)).1, (red ss v (2 ^ vs.length)).2⟩] else ss) := by
  obtain ⟨p, p1, p2, p3, p4⟩ := red_ok (l := v) (w := 2 ^ vs.length) h.tot h.lt
  have hf := red_free (l := v) (w := 2 ^ vs.length) h.bit h.ord
  generalize hl : (red ss v (2 ^ vs.length)).1 = l at *
  generalize hw : (red ss v (2 ^ vs.length)).2 = w at *
  have hp : p.testBit vs.length = false := Nat.testBit_lt_two_pow p1
  have up : ∀ q, q < 2 ^ vs.length → xsel (vs ++ [v]) q = xsel vs q := fun q hq => by
    rw [xsel_snoc, Nat.testBit_lt_two_pow hq]
    simp
  have ol : ∀ s ∈ ss, s.t = xsel (vs ++ [v]) s.p := fun s hs => by rw [up _ (h.lt s hs)]; exact h.tot s hs
  have ll : ∀ s ∈ ss, s.p < 2 ^ (vs ++ [v]).length := fun s hs => Nat.lt_of_lt_of_le (h.lt s hs) (Nat.pow_le_pow_right (by decide) (by simp))
  have hv : v = l ^^^ xsel vs p := by rw [p2, Nat.xor_assoc, Nat.xor_self, Nat.xor_zero]
  have cov : ∀ (ss' : List Sm), (∀ x, Tot ss x → Tot ss' x) → Tot ss' v → ∀ q, Tot ss' (xsel (vs ++ [v]) q) := fun ss' g1 g2 q => by
    rw [xsel_snoc]
    refine (g1 _ (h.cov q)).xor ?_
    split
    · exact g2
    · exact Tot.zero _
  split
  · rename_i hne
    have hwp : w = 2 ^ vs.length ^^^ p := p3
    have hnew : l = xsel (vs ++ [v]) w := by
      rw [hwp, xsel_xor, up _ p1, xsel_snoc]
      have e0 : xsel vs (2 ^ vs.length) = 0 := by
        have : ∀ (us : List Nat), xsel us (2 ^ us.length) = 0 := fun us => by
          induction us with
          | nil => rfl
          | cons u us ih =>
            show (if (2 ^ (us.length + 1) : Nat).testBit 0 = true then u else 0) ^^^ xsel us ((2 ^ (us.length + 1)) / 2) = 0
            rw [show (2 ^ (us.length + 1) : Nat) / 2 = 2 ^ us.length by rw [Nat.pow_succ]; omega, ih, show (2 ^ (us.length + 1) : Nat).testBit 0 = false by rw [Nat.testBit_zero, Nat.pow_succ]; simp]
            simp
        exact this vs
      rw [e0, Nat.testBit_two_pow_self, if_pos rfl, Nat.zero_xor]
      exact p2
    refine ⟨fun s hs => ?_, fun s hs => ?_, fun s hs => ?_, ?_, cov _ (fun x hx => hx.snoc _) ?_⟩
    · rcases List.mem_append.1 hs with hs | hs
      · exact ol s hs
      · rw [List.mem_singleton.1 hs]; exact hnew
    · rcases List.mem_append.1 hs with hs | hs
      · exact ll s hs
      · rw [List.mem_singleton.1 hs]
        show w < _
        rw [hwp, List.length_append, List.length_singleton]
        exact Nat.xor_lt_two_pow (Nat.pow_lt_pow_right (by decide) (Nat.lt_succ_self _)) (Nat.lt_of_lt_of_le p1 (Nat.pow_le_pow_right (by decide) (Nat.le_succ _)))
    · rcases List.mem_append.1 hs with hs | hs
      · exact h.bit s hs
      · rw [List.mem_singleton.1 hs]; exact hj hne
    · rw [List.pairwise_append]
      exact ⟨h.ord, List.pairwise_singleton _ _, fun a ha b hb => by rw [List.mem_singleton.1 hb]; exact hf a ha⟩
    · have t1 : Tot (ss ++ [⟨j, l, w⟩]) l := Tot.mem (s := ⟨j, l, w⟩) (by simp)
      have t2 := t1.xor ((Tot.snoc ⟨j, l, w⟩ p4))
      rw [hv]
      exact t2
  · rename_i hz
    have l0 : l = 0 := by simpa using hz
    refine ⟨ol, ll, h.bit, h.ord, cov _ (fun x hx => hx) ?_⟩
    rw [hv, l0, Nat.zero_xor]
    exact p4
/-- what is left of a number: 0 just where it is a sum of them -/
theorem SpOk.left {vs : List Nat} {ss : List Sm} (h : SpOk vs ss) (x : Nat) : (red ss x 0).2 < 2 ^ vs.length ∧ ((red ss x 0).1 = 0 → xsel vs (red ss x 0).2 = x) ∧ ((red ss x 0).1 ≠ 0 → ∀ q, xsel vs q ≠ x) := by
  obtain ⟨p, p1, p2, p3, p4⟩ := red_ok (l := x) (w := 0) h.tot h.lt
  have hf := red_free (l := x) (w := 0) h.bit h.ord
  rw [Nat.zero_xor] at p3
  refine ⟨by rw [p3]; exact p1, fun h0 => ?_, fun h0 q e => h0 ?_⟩
  · rw [p3]
    rw [h0] at p2
    have := congrArg (· ^^^ xsel vs p) p2
    simp only [Nat.xor_assoc, Nat.xor_self, Nat.xor_zero, Nat.zero_xor] at this
    exact this
  · refine tot_zero h.bit h.ord ?_ hf
    rw [p2]
    refine Tot.xor ?_ p4
    rw [← e]
    exact h.cov q
end Tw

set_option Elab.async false
set_option linter.all false
set_option maxRecDepth 100000
namespace Tw
open PySem L2
/-! Which rows go beside one another stays behind deeds; letters add. -/
def pb (u : Nat) : Bool := decide (pop u % 2 = 1)
theorem pb_xor (u v : Nat) : pb (u ^^^ v) = (pb u ^^ pb v) := by
  unfold pb
  have h := pop_xor2 u v
  have h1 := Nat.mod_two_eq_zero_or_one (pop u)
  have h2 := Nat.mod_two_eq_zero_or_one (pop v)
  rw [Nat.add_mod] at h
  rcases h1 with h1 | h1 <;> rcases h2 with h2 | h2 <;> rw [h, h1, h2] <;> decide
theorem pb_zero : pb 0 = false := by unfold pb; rw [pop_zero]; rfl
theorem and_pow (u i : Nat) : u &&& 2 ^ i = (u.testBit i).toNat * 2 ^ i := by
  apply Nat.eq_of_testBit_eq
  intro q
  rw [Nat.testBit_and, Nat.testBit_two_pow, tb_mul]
  by_cases h : i = q
  · subst h; simp
  · simp [h]
/-- whether two rows don't go beside one another -/
def symp (r s : Row) : Bool := pb (r.x &&& s.z) ^^ pb (r.z &&& s.x)
def Add3 (r s t : Row) : Prop := t.x = r.x ^^^ s.x ∧ t.z = r.z ^^^ s.z
end Tw

set_option Elab.async false
set_option linter.all false
set_option maxRecDepth 100000
namespace Tw
open PySem L2
/-! Rows multiplied with one another: what they make stays. -/
def Spn (l : List Nat) (v : Nat) : Prop := ∃ m, m < 2 ^ l.length ∧ xsel l m = v
def Ind : List Nat → Prop
  | [] => True
  | b :: l => ¬ Spn l b ∧ Ind l
/-! rows -/
def NR (r : Row) : Nat := r.x ^^^ r.z * 2 ^ 40
theorem sn_inj {w x z x' z' : Nat} (hx : x < 2 ^ w) (hx' : x' < 2 ^ w) (h : x ^^^ z * 2 ^ w = x' ^^^ z' * 2 ^ w) : x = x' ∧ z = z' := by
  have b1 : ∀ {a c : Nat}, a < 2 ^ w → ∀ i, i < w → (a ^^^ c * 2 ^ w).testBit i = a.testBit i := fun {a c} ha i hi => by
    rw [Nat.testBit_xor, ← Nat.shiftLeft_eq, Nat.testBit_shiftLeft]
    simp [Nat.not_le.2 hi]
  have b2 : ∀ {a c : Nat}, a < 2 ^ w → ∀ i, (a ^^^ c * 2 ^ w).testBit (w + i) = c.testBit i := fun {a c} ha i => by
    rw [Nat.testBit_xor, ← Nat.shiftLeft_eq, Nat.testBit_shiftLeft, Nat.testBit_lt_two_pow (Nat.lt_of_lt_of_le ha (Nat.pow_le_pow_right (by decide) (Nat.le_add_right _ _)))]
    simp
  constructor
  · apply Nat.eq_of_testBit_eq
    intro i
    rcases Nat.lt_or_ge i w with hi | hi
    · rw [← b1 (c := z) hx i hi, h, b1 hx' i hi]
    · rw [Nat.testBit_lt_two_pow (Nat.lt_of_lt_of_le hx (Nat.pow_le_pow_right (by decide) hi)), Nat.testBit_lt_two_pow (Nat.lt_of_lt_of_le hx' (Nat.pow_le_pow_right (by decide) hi))]
  · apply Nat.eq_of_testBit_eq
    intro i
    rw [← b2 (c := z) hx i, h, b2 hx' i]
theorem mul_xor (a b k : Nat) : (a ^^^ b) * 2 ^ k = a * 2 ^ k ^^^ b * 2 ^ k := by
  rw [← Nat.shiftLeft_eq, ← Nat.shiftLeft_eq, ← Nat.shiftLeft_eq]
  exact Nat.shiftLeft_xor_distrib
theorem sn_sel (w : Nat) : ∀ (rs : List Row) (m : Nat), xsel (rs.map fun r => r.x ^^^ r.z * 2 ^ w) m = xsel (rs.map Row.x) m ^^^ xsel (rs.map Row.z) m * 2 ^ w
  | [], m => by simp [xsel]
  | r :: rs, m => by
    show (if m.testBit 0 = true then r.x ^^^ r.z * 2 ^ w else 0) ^^^ xsel (rs.map fun r => r.x ^^^ r.z * 2 ^ w) (m / 2) = ((if m.testBit 0 = true then r.x else 0) ^^^ xsel (rs.map Row.x) (m / 2)) ^^^ ((if m.testBit 0 = true then r.z else 0) ^^^ xsel (rs.map Row.z) (m / 2)) * 2 ^ w
    rw [sn_sel w rs (m / 2), mul_xor]
    split
    · exact x4 _ _ _ _
    · simp
/-- the letters of a product of chosen rows -/
def Lsel (rs : List Row) (m : Nat) (r : Row) : Prop := xsel (rs.map Row.x) m = r.x ∧ xsel (rs.map Row.z) m = r.z
theorem lsel_sn {w : Nat} {rs : List Row} {r : Row} (hrs : ∀ s ∈ rs, s.x < 2 ^ w) (hr : r.x < 2 ^ w) (m : Nat) : xsel (rs.map fun r => r.x ^^^ r.z * 2 ^ w) m = r.x ^^^ r.z * 2 ^ w ↔ Lsel rs m r := by
  rw [sn_sel]
  constructor
  · intro h
    exact sn_inj (xsel_lt m fun v hv => by obtain ⟨s, hs, rfl⟩ := List.mem_map.1 hv; exact hrs s hs) hr h
  · rintro ⟨h1, h2⟩
    rw [h1, h2]
def im (ds : List Dd) (v : Nat) : Row := acts ds ⟨0, 0, v⟩
/-- the rows of a whole, or the first of them, multiplied with one another -/
structure Mx (ds : List Dd) (n many : Nat) (rs : List Row) : Prop where
  len : rs.length = many
  ok : ∀ r ∈ rs, r.Ok n
  com : ∀ r ∈ rs, ∀ s ∈ rs, symp r s = false
  sp : ∀ u, Spn (rs.map NR) u ↔ ∃ v, v < 2 ^ many ∧ NR (im ds v) = u
  ind : Ind (rs.map NR)
theorem symp_add {r s t u : Row} (h : Add3 r s t) : symp t u = (symp r u ^^ symp s u) := by
  unfold symp
  rw [h.1, h.2, xor_and_d, xor_and_d, pb_xor, pb_xor]
  generalize pb (r.x &&& u.z) = a; generalize pb (s.x &&& u.z) = b; generalize pb (r.z &&& u.x) = c; generalize pb (s.z &&& u.x) = d
  revert a b c d; decide
theorem symp_comm (r s : Row) : symp r s = symp s r := by
  unfold symp
  rw [Nat.and_comm r.x s.z, Nat.and_comm r.z s.x]
  exact Bool.xor_comm _ _
end Tw

set_option Elab.async false
set_option linter.all false
set_option maxRecDepth 100000
namespace Tw
open PySem L2
/-! Products of rows with their signs; which rows a row is a product of. -/
theorem low_bit : ∀ v : Nat, 0 < v → ∃ j, v - (v &&& (v - 1)) = 2 ^ j ∧ v.testBit j = true := by
  intro v
  induction v using Nat.strongRecOn with
  | _ v ih =>
    intro hv
    by_cases h : v % 2 = 1
    · refine ⟨0, ?_, by rw [Nat.testBit_zero]; simpa using h⟩
      have e : v &&& (v - 1) = v - 1 := by
        have h1 : (v &&& (v - 1)) / 2 = (v - 1) / 2 := by
          rw [and_div2, show v / 2 = (v - 1) / 2 by omega, Nat.and_self]
        have h2 : (v &&& (v - 1)) % 2 = 0 := by
          rw [and_mod2, show (v - 1) % 2 = 0 by omega, Nat.mul_zero]
        omega
      rw [e]
      show v - (v - 1) = 1
      omega
    · obtain ⟨j, e, b⟩ := ih (v / 2) (by omega) (by omega)
      refine ⟨j + 1, ?_, by rw [Nat.testBit_succ]; exact b⟩
      have h1 : (v &&& (v - 1)) / 2 = v / 2 &&& (v / 2 - 1) := by
        rw [and_div2, show (v - 1) / 2 = v / 2 - 1 by omega]
      have h2 : (v &&& (v - 1)) % 2 = 0 := by
        rw [and_mod2, show v % 2 = 0 by omega, Nat.zero_mul]
      have h3 : v / 2 &&& (v / 2 - 1) ≤ v / 2 := Nat.and_le_left
      rw [Nat.pow_succ, ← e]
      omega
def tmq (r s : Row) : Int := (pop (r.x &&& r.z) : Int) + (pop (s.x &&& s.z) : Int) + 2 * (pop (r.z &&& s.x) : Int) - (pop ((r.x ^^^ s.x) &&& (r.z ^^^ s.z)) : Int)
/-- the product of two rows that go beside one another -/
def tm (r s : Row) : Row := ⟨(((r.m : Int) + (s.m : Int) + tmq r s / 2) % 2).toNat, r.x ^^^ s.x, r.z ^^^ s.z⟩
theorem tm_m (r s : Row) : (((r.m : Int) + (s.m : Int) + tmq r s / 2) % 2) = ((tm r s).m : Int) := by
  show _ = ((((r.m : Int) + (s.m : Int) + tmq r s / 2) % 2).toNat : Int)
  omega
theorem tm_add (r s : Row) : Add3 r s (tm r s) := ⟨rfl, rfl⟩
theorem symp_pop (r s : Row) : symp r s = false ↔ pop ((r.x &&& s.z) ^^^ (r.z &&& s.x)) % 2 = 0 := by
  unfold symp
  rw [← pb_xor]
  unfold pb
  rw [decide_eq_false_iff_not]
  omega
theorem symp_pop2 (r s : Row) (h : symp r s = false) : pop (r.x &&& s.z) % 2 = pop (r.z &&& s.x) % 2 := by
  have h1 := (symp_pop r s).1 h
  have h2 := pop_xor2 (r.x &&& s.z) (r.z &&& s.x)
  omega
/-- the program's way of it -/
theorem tm_prog {r s : Row} (h : symp r s = false) : (2 * ((r.m : Int) + (s.m : Int) + (pop (r.x &&& s.z) : Int)) + (pop (r.x &&& r.z) : Int) + (pop (s.x &&& s.z) : Int) - (pop ((r.x ^^^ s.x) &&& (r.z ^^^ s.z)) : Int)) % 4 / 2 = ((tm r s).m : Int) := by
  have h1 := symp_pop2 r s h
  have h2 := pop_both r.x r.z s.x s.z
  have h3 := (symp_pop r s).1 h
  rw [← tm_m]
  unfold tmq
  omega
def pr (us : List Row) : Row := us.foldl tm ⟨0, 0, 0⟩
theorem pr_snoc (us : List Row) (r : Row) : pr (us ++ [r]) = tm (pr us) r := by unfold pr; rw [List.foldl_append]; rfl
theorem pr_take {us : List Row} {i : Nat} {r : Row} (h : us[i]? = some r) : pr (us.take (i + 1)) = tm (pr (us.take i)) r := by
  rw [← pr_snoc, take_succ_of h]
theorem symp_zero (s : Row) : symp ⟨0, 0, 0⟩ s = false := by
  unfold symp
  show (pb (0 &&& s.z) ^^ pb (0 &&& s.x)) = false
  rw [Nat.zero_and, Nat.zero_and, pb_zero]
  rfl
theorem pr_com {rs : List Row} (h : ∀ r ∈ rs, ∀ s ∈ rs, symp r s = false) : ∀ {us : List Row}, (∀ u ∈ us, u ∈ rs) → ∀ s ∈ rs, symp (pr us.reverse) s = false
  | [], _, s, _ => symp_zero s
  | u :: us, hu, s, hs => by
    rw [List.reverse_cons, pr_snoc, symp_add (tm_add _ _), pr_com h (fun v hv => hu v (List.mem_cons_of_mem _ hv)) s hs, h u (hu u List.mem_cons_self) s hs]
    rfl
theorem pr_com' {rs us : List Row} (h : ∀ r ∈ rs, ∀ s ∈ rs, symp r s = false) (hu : ∀ u ∈ us, u ∈ rs) {s : Row} (hs : s ∈ rs) : symp (pr us) s = false := by
  have := pr_com h (us := us.reverse) (fun u hu' => hu u (List.mem_reverse.1 hu')) s hs
  rw [List.reverse_reverse] at this
  exact this
def pk (rs : List Row) (ks : List Nat) : List Row := ks.map fun k => rs.getD k ⟨0, 0, 0⟩
theorem pk_app (rs : List Row) (a b : List Nat) : pk rs (a ++ b) = pk rs a ++ pk rs b := List.map_append ..
theorem pk_mem {rs : List Row} {ks : List Nat} (h : ∀ k ∈ ks, k < rs.length) : ∀ u ∈ pk rs ks, u ∈ rs := fun u hu => by
  obtain ⟨k, hk, rfl⟩ := List.mem_map.1 hu
  have := h k hk
  rw [List.getD_eq_getElem?_getD, List.getElem?_eq_getElem this]
  exact List.getElem_mem _
theorem plc_more {m a : Nat} (h : m < 2 ^ a) : ∀ {b : Nat}, a ≤ b → plc m b = plc m a
  | 0, hb => by rw [show a = 0 by omega]
  | b + 1, hb => by
    by_cases e : a = b + 1
    · rw [e]
    · rw [plc, Nat.testBit_lt_two_pow (Nat.lt_of_lt_of_le h (Nat.pow_le_pow_right (by decide) (show a ≤ b by omega)))]
      exact plc_more h (by omega)
end Tw

set_option Elab.async false
set_option linter.all false
set_option maxRecDepth 100000
namespace L2
open PySem PySem.Spec PyProof.Rows
/-! xs[k] = v; list(reversed(xs)) -/
section
variable {prog : Program} {w : World} {A : Around} {E : Value → Shared → Prop} {s : Shared}
theorem tw_setItem {l : Addr} {items : Array Value} {n j : Nat} {t : Tok} {v : Value} {Q : Unit → Shared → Prop} (e : s.heap.get? l = some { cls := .type "list", data := .seq items n }) (hj : j < items.size) (hfit : (j : Int) < 2 ^ 63)
    (h : Q () { s with heap := s.heap.update l (Obj.mapSeq (·.setIfInBounds j v)) }) : wpAny (model prog w) A (setItem (.ref l) (.int (j : Int) t) v) Q E s := by
  have hl : s.heap.IsList l items := PySem.IsL.isList e
  have hx : items[j]? = some items[j] := Array.getElem?_eq_getElem hj
  have hf := fitsIndex_of (k := (j : Int)) (by omega) hfit
  clear hfit
  obtain ⟨k, hk⟩ : ∃ k : Int, k = (j : Int) := ⟨_, rfl⟩
  rw [← hk] at hf ⊢
  unfold setItem
  try with_reducible refine wpAny_holding ?_
  first | refine wpAny_bind (wpAny_pure ?_) | skip
  refine wpAny_bind (wpAny_sequenceKey hl.typeIs (by decide) ?_)
  refine wpAny_bind (wpAny_callSpecial?_slot (name := Str.ofString "__setitem__") hl.typeIs slot_list_setitem (wpAny_call_entry slot_list_setitem hl.typeIs entry_list_setitem ?_ (args_list_setitem _ _ _)))
  show wpAny _ _ (Builtin.List.listSubscript? (.int k t) >>= _) _ _ s
  refine wpAny_bind (wpAny_listSubscript_int hf ?_)
  clear hf
  subst hk
  show wpAny _ _ ((seqItemAt l j >>= fun r => pure (r.map (j, ·))) >>= _) _ _ s
  refine wpAny_bind (wpAny_bind (wpAny_seqItemAt e rfl (wpAny_pure ?_)))
  rw [hx]
  show wpAny _ _ (setSeqItemAt l j v >>= _) _ _ s
  refine wpAny_bind (wpAny_setSeqItemAt e rfl ?_)
  first
    | exact wpAny_bind (wpAny_pure (wpAny_pure ⟨.none, rfl, wpAny_pure h⟩))
    | exact wpAny_pure ⟨.none, rfl, wpAny_pure h⟩
end
section
variable {X : Cx} {o i value : Expr} {td ty tv : TE} {pos pos' : Pos}
def sLPut (td ty tv : TE) : TS := fun D σ H => tv σ H fun v H1 => td σ H1 fun x H2 => ty σ H2 fun y H3 => ∃ a xs, ∃ k : Nat, x = .ref a ∧ y = .int (k : Int) ∧ H3 a = some (.lst xs) ∧ k < xs.length ∧ D.nx σ (upd H3 a (.lst (xs.set k v)))
theorem vals_set : ∀ {xs : List V} {its : List Value} {y : V} {u : Value}, Vals xs its → RelV y u → ∀ k, Vals (xs.set k y) (its.set k u)
  | _, _, _, _, .nil, _, _ => .nil
  | _, _, _, _, .cons _ t, ry, 0 => .cons ry t
  | _, _, _, _, .cons h t, ry, k + 1 => .cons h (vals_set t ry k)
theorem ps_lput (ho : PE X o td) (hi : PE X i ty) (hv : PE X value tv) (hs : swapsWith value (some (.Subscript o i pos')) pos.line X.env = pure false) : PS X (.Assign [.Subscript o i pos'] value pos) (sLPut td ty tv) := by
  intro pins s σ H D I h
  refine wpAny_Assign_Subscript (thn (hv pins s σ H _ I h) fun r s1 ⟨v, H1, I1, rv, q1⟩ => thn (ho pins s1 σ H1 _ I1 q1) fun u s2 ⟨x, H2, I2, rx, q2⟩ => thn (hi pins s2 σ H2 _ I2 q2) fun iv s3 ⟨y, H3, I3, ry, a, xs, k, ex, ey, hH, hk, q3⟩ => ?_) hs
  subst ex ey
  obtain rfl : u = Value.ref a := rx
  obtain ⟨t, rfl⟩ := ry
  obtain ⟨z, its, n, rr, hl, e⟩ := I3.lstM hH
  have hlen := rr.length
  have hz : sizeLine < 2 ^ 60 := by rw [sizeLine_eq]; decide
  refine tw_setItem e (by rw [List.size_toArray]; omega) (by omega) ?_
  exact ⟨σ, _, I3.lset (t' := s3.toks) (its' := its.set k r) hH e (by simp) (vals_set rr rv k) (by rw [List.length_set]; omega), q3⟩
theorem pe_bm0K {K : PySem.W.Frag} {T : String} {id : String} {name : Str} {r : V → List V → Hp → VK → Prop} {o : Expr} {to : TE} {apos cpos : Pos} (hK : X.K = K) (pa : PlainAttrs T) (slot : Slot T name id) (hty : typeOf (.builtin id) = pure (.type "method_descriptor")) (hm : MtR X id r) (ho : PE X o to)
    (hbase : attributeBase o name X.env (eval o X.env) = eval o X.env := by rfl) (hline : (apos.endLine == cpos.line) = true := by rfl) : PE X (.Call (.Attribute o name apos) [] [] cpos) (tBM0 K T r to) := hK ▸ pe_bm0 pa slot hty hm ho hbase hline
def tListRev (K : PySem.W.Frag) (ta : TA) : TE := fun σ H Q => ta σ H fun vs H1 => ∃ a xs, vs = [.ref a] ∧ SqL K H1 a xs ∧ xs.length ≤ 1000 ∧ ∀ p, H1 p = none → Q (.ref p) (upd H1 p (.lst xs.reverse))
end
end L2

set_option Elab.async false
set_option linter.all false
set_option maxRecDepth 100000
namespace L2
open PySem PySem.Spec PyProof.Rows
/-! A list comprehension of one clause whose target is a pair of names, the second of which a block within sees: it lives in a cell of this block. -/
/-- what the block's scope must be: its own name x, the rest free (a cell or free where the def stands) or global -/
structure CpScopeN (sc : Scope) (x x2 : Str) (scope : Scope) : Prop where
  kind : scope.kind = .function
  cell : ∀ y ∈ scope.names, y.2 = .cell → y.1 = x2
  lay : ∀ a cl, cellsFrom a scope.names cl = (x2, a) :: cl
  own : scope.names.lookup x = some .local
  own2 : scope.names.lookup x2 = some .cell
  loc : ∀ y ∈ scope.names, y.2 = .local → y.1 = x ∨ y.1 = (".0" : Str)
  nam : ∀ y ∈ scope.names, y.2 = .local → scope.names.lookup y.1 = some .local
  free : ∀ y ∈ scope.names, y.2 = .free → sc.names.lookup y.1 = some .cell ∨ sc.names.lookup y.1 = some .free
  two : ∀ y ∈ scope.names, y.2 = .free → y.1 ≠ x ∧ y.1 ≠ x2
/-- the block's context -/
def Cx.compN (X : Cx) (M : List Str) (scope : Scope) (x x2 : Str) (C : Addr) (s : Shared) (H : Hp) (ex : List Addr) : Cx :=
  { X with N := x :: x2 :: M, s₀ := s, H₀ := H, env := compEnvC scope ((x2, C + 1) :: clGo X.env scope.names []) C X.env, outer := X.stack, ex := ex, fn := fun y => y == x2, pn := [], xe := fun _ _ => False }
section
variable {X : Cx} {M : List Str} {pins : List (Addr × Obj)} {σ : St} {H : Hp} {s : Shared} {scope : Scope} {x x2 : Str}
end
section
variable {X : Cx} {M : List Str} {scope : Scope} {x x2 : Str} {px px2 ptg pos : Pos} {tk : Nat} {elt iter : Expr} {ifs : List Expr} {wi : TI} {tt : TT} {te : TE}
end
end L2

set_option Elab.async false
set_option linter.all false
set_option maxRecDepth 100000
namespace Tw
open PySem L2
/-! The scope of a comprehension that stands in what a def gives back; a try that catches nothing. -/
def scopeIn : Nat → Expr → Scope
  | 0, _ => { kind := .function, names := [], isGenerator := false, isCoroutine := false }
  | k + 1, e => match e with
    | .ListComp _ _ sc _ => sc
    | .Call _ (a :: _) _ _ => scopeIn k a
    | _ => { kind := .function, names := [], isGenerator := false, isCoroutine := false }
def bodyScope (s : Stmt) : Scope := match s with
  | .FunctionDef _ _ (.Return (some e) _ :: _) _ _ _ _ _ _ _ => scopeIn 3 e
  | _ => { kind := .function, names := [], isGenerator := false, isCoroutine := false }
def relS (scope sc : Scope) : Scope := { scope with names := scope.names.map fun (n, k) => if (k == .free && sc.kind == .function && sc.names.lookup n == some .cell) = true then (n, .cell) else (n, k) }
end Tw
namespace L2
open PySem PySem.Spec PyProof.Rows
section
variable {X : Cx} {scope : Scope} {x : Str} {px pos : Pos} {elt iter : Expr} {ifs : List Expr} {wi : TI} {tt : TT} {te : TE}
/-- name = [.. for ..] -/
theorem ps_setCS {sc : Scope} {i : Nat} {y : Str} {py spos : Pos} (hi' : X.N[i]? = some y) (hy : Loc X.env.scope y) (M N0 : List Str) (hN0 : X.N = N0) (hsc : X.env.scope = sc) (S : CpScope sc x scope) (hx : x ∉ M) (h0 : (".0" : Str) ∉ M) (hNX : X.N.Nodup) (hN : M.Nodup) (hlen : M.length = N0.length) (hM : (M.zip N0).all (fun p => p.1 == p.2 || (scope.names.lookup p.1).isNone) = true) (hc : X.calm = true) (hi : PI X (.Name x px) iter wi)
    (ht : ∀ C s H ex, PIfs (X.comp M scope x C s H ex) ifs tt) (he : ∀ C s H ex, PE (X.comp M scope x C s H ex) elt te) (hs : ∀ v, foldedSetIterable iter X.env v = pure v := by intro _; rfl)
    (hsw : swapsWith (.ListComp elt [⟨.Name x px, iter, ifs, 0⟩] scope pos) (some (.Name y py)) spos.line X.env = pure true := by rfl)
    (hf : X.fn y = true ∨ X.env.scope.names.lookup y = some .local := by first | exact .inl rfl | exact .inr rfl | assumption) :
    PS X (.Assign [.Name y py] (.ListComp elt [⟨.Name x px, iter, ifs, 0⟩] scope pos) spos) (tAsg (tComp wi tt te) (gName i)) := by
  subst hN0
  intro pins s σ H D I h
  rw [exec_Assign_Name_used _ _ _ _ hsw]
  refine wpAny_bind (wpAny_standAt (wpAny_bind ?_))
  show wpAny _ X.A (do let _ ← comprehension (.ListComp elt [⟨.Name x px, iter, ifs, 0⟩] scope pos) scope X.env _ (newList []) false (eval iter X.env) (some (assign (.Name y py) X.env))) _ _ s
  refine wpAny_bind (wpAny_mono (comp_core (use := some (assign (.Name y py) X.env)) (QQ := fun _ s' => SP X pins D .next s') (M := M) hsc S hx h0 hN hlen (zip_or hM hlen) hc hi ht he I h (fun D' C s4 H4 c1 c2 c3 c4 c5 hn inv q => ?_) hs) (fun _ s' hq => wpAny_pure (wpAny_pure hq)) fun _ _ e => e)
  obtain ⟨m, hn⟩ := hn
  show wpAny _ X.A (assign (.Name y py) X.env (.ref D')) _ _ s4
  refine wpAny_assign_Name (store_ok2 (v := .ref D') (inv s4.heap (.refl ..)) hNX hi' hy rfl (fun s5 I5 ⟨a, sb, ha⟩ => ?_) hf)
  have hCa : C ≠ a := by
    rcases ha with r | r
    · rw [r]; exact c1
    · exact fun z => c2 _ _ r z.symm
  exact ⟨m, hn.sameBut sb hCa, fun h' hs' => ⟨_, H4, I5.turned (t' := s5.toks) (fun b o hb e => hs'.extBut b o hb e) c5 c1 (.inr c4) c2 c3, q⟩⟩
end
end L2

set_option Elab.async false
set_option linter.all false
set_option maxRecDepth 100000
namespace L2
open PySem PySem.Spec PyProof.Rows
/-! Lambdas: made, handed to a def of the text, called there. -/
/-- the very object -/
def exO (a : Addr) (o : Obj) : HO := .ext fun h => h.get? a = some o
section
variable {P : Program} {w : World} {H : Hp} {h : Heap} {a : Addr} {o : Obj}
theorem exO_ok (e : h.get? a = some o) : ObjOk P w H h a (exO a o) := ⟨e, ⟨o, e⟩, fun _ _ p k => k o p⟩
theorem exO_get (x : ObjOk P w H h a (exO a o)) : h.get? a = some o := x.1
end
def CodeO (o : Obj) (q : Str) : Prop := ∃ vs t, o.data = .fields vs ∧ vs[1]? = some (.str q t)
structure Lam where
  qual : Str
  params : Arguments
  body : Expr
  scope : Scope
  pos : Pos
/-- the table of a def's code: it knows of the lambda, or does not yet -/
def TabAt (H : Hp) (T : Addr) (l : Lam) : Prop := ∃ ps : Array Value, H T = some (.tbl ps) ∧ TriplesOk ps.toList ∧ (codeAmong l.pos ps.toList = none ∨ ∃ c' oc, codeAmong l.pos ps.toList = some (.ref c') ∧ H c' = some (exO c' oc) ∧ CodeO oc l.qual)
/-- a function made of it, with its cells -/
def LamAt (H : Hp) (f : Addr) (l : Lam) (cl : List (Str × Addr)) : Prop := ∃ c' oc pm ctv, H f = some (exO f (PySem.W.kla_obj "<lambda>" l.qual l.params l.body l.scope cl pm c' ctv)) ∧ H c' = some (exO c' oc) ∧ CodeO oc l.qual
/-- all but tables stays -/
def SameT (H H' : Hp) : Prop := ∀ a o, H a = some o → (∀ ps, o ≠ .tbl ps) → H' a = some o
theorem SameT.trans {H H' H'' : Hp} (a : SameT H H') (b : SameT H' H'') : SameT H H'' := fun c o e n => b c o (a c o e n) n
/-- all but one table stays -/
def SameX (T : Addr) (H H' : Hp) : Prop := ∀ a o, a ≠ T → H a = some o → H' a = some o
theorem SameX.t {T : Addr} {H H' : Hp} {ps : Array Value} (h : SameX T H H') (e : H T = some (.tbl ps)) : SameT H H' := fun a o q n => h a o (fun z => by rw [z, e] at q; cases q; exact n _ rfl) q
def BltM (mg : Str → Option Value) (base : Heap) : Prop := ∃ bm o, mg "__builtins__" = some (.ref bm) ∧ bm ≠ builtinsNs ∧ base.get? bm = some o ∧ o.cls = .type "module" ∧ o.dict = some builtinsNs ∧ o.data = .plain
section
variable {X : Cx} {pins : List (Addr × Obj)} {σ : St} {H : Hp} {s : Shared} {T c : Addr} {l : Lam} {cl : List (Str × Addr)}
theorem make_lam {Q : Value → Shared → Prop} (I : Inv X pins σ H s) (hcode : X.env.code = .ref c) (C : PySem.W.CodeHd X.base c T) (B : BltM X.mg X.base) (hq : X.env.qual ++ "<lambda>" = l.qual) (hdef : defaultsOf l.params X.env = ([], []))
    (hcl : closureFor l.scope X.env = pure cl) (t : TabAt H T l)
    (h : ∀ f H' s', Inv X pins σ H' s' → SameX T H H' → TabAt H' T l → H f = none → LamAt H' f l cl → Q (.ref f) s') :
    wpAny (model X.prog X.w) X.A (eval (.Lambda l.params l.body l.scope l.pos) X.env) Q X.xe s := by
  refine PySem.W.kla_eval hdef ?_
  rw [hq]
  obtain ⟨ps, hT, tr, hc⟩ := t
  have hP : s.heap.get? T = some (PySem.W.tabObj ps) := I.hok T _ hT
  have hns := I.mod.glob
  have hgs : s.heap.Ns mainGlobals X.mg := hns.keeps I.bk
  have hgT : mainGlobals ≠ T := fun z => by
    obtain ⟨o, es, ep, e, _⟩ := hns
    have := (I.bs _ _ e).2
    rw [z, hT] at this; cases this
  obtain ⟨bm, ob, b1, b2, b3, b4, b5, b6⟩ := B
  have hbT : bm ≠ T := fun z => by
    have := (I.bs _ _ b3).2
    rw [z, hT] at this; cases this
  have hbG : bm ≠ mainGlobals := fun z => by
    obtain ⟨o, es, ep, e, hd, _⟩ := hns
    rw [z, e] at b3; cases b3; rw [hd] at b6; cases b6
  have hb : s.heap.BuiltinsAt X.mg T := ⟨bm, ob, b1, b2, hbG, hbT, I.bk _ _ b3, b4, b5, b6⟩
  rcases hc with hnf | ⟨c', oc, hf, hc', hoc⟩
  · refine PySem.W.kla_makeFunction hcl I.ok.glob hgs hcode (C.keeps I.bk) hP tr hnf hgT hb fun c' ctv h' tk hx hge hlt hrec htb => ?_
    obtain ⟨c2, oc, vs, tt, e2, hoc, hd, hv⟩ := hrec
    cases e2
    have nT : ∀ b u, H b = some u → (∀ q, u ≠ .tbl q) → b ≠ T := fun b u e n z => by
      rw [z, hT] at e; cases e; exact n _ rfl
    have fc : H c' = none := I.hok.fresh hge
    have hszle : s.heap.objs.size ≤ h'.objs.size := Nat.le_trans hge (Nat.le_of_lt hlt)
    have ff : H h'.objs.size = none := I.hok.fresh hszle
    have fT : T ≠ c' := ne_of_none hT fc
    have fTf : T ≠ h'.objs.size := ne_of_none hT ff
    have cf : c' ≠ h'.objs.size := Nat.ne_of_lt hlt
    have at_ : ∀ b u, H b = some u → (∀ q, u ≠ .tbl q) → upd (upd (upd H T (.tbl (ps ++ #[rawInt l.pos.line, rawInt l.pos.col, .ref c']))) c' (exO c' oc)) h'.objs.size (exO h'.objs.size (PySem.W.kla_obj "<lambda>" l.qual l.params l.body l.scope cl ((X.mg "__name__").getD .none) c' ctv)) b = some u := fun b u e n => by
      rw [upd_ne (ne_of_none e ff), upd_ne (ne_of_none e fc), upd_ne (nT b u e n)]
      exact e
    have tb_ : upd (upd (upd H T (.tbl (ps ++ #[rawInt l.pos.line, rawInt l.pos.col, .ref c']))) c' (exO c' oc)) h'.objs.size (exO h'.objs.size (PySem.W.kla_obj "<lambda>" l.qual l.params l.body l.scope cl ((X.mg "__name__").getD .none) c' ctv)) T = some (.tbl (ps ++ #[rawInt l.pos.line, rawInt l.pos.col, .ref c'])) := by
      rw [upd_ne fTf, upd_ne fT, upd_same]
    have c_ : upd (upd (upd H T (.tbl (ps ++ #[rawInt l.pos.line, rawInt l.pos.col, .ref c']))) c' (exO c' oc)) h'.objs.size (exO h'.objs.size (PySem.W.kla_obj "<lambda>" l.qual l.params l.body l.scope cl ((X.mg "__name__").getD .none) c' ctv)) c' = some (exO c' oc) := by
      rw [upd_ne cf, upd_same]
    have f_ : upd (upd (upd H T (.tbl (ps ++ #[rawInt l.pos.line, rawInt l.pos.col, .ref c']))) c' (exO c' oc)) h'.objs.size (exO h'.objs.size (PySem.W.kla_obj "<lambda>" l.qual l.params l.body l.scope cl ((X.mg "__name__").getD .none) c' ctv)) h'.objs.size = some (exO h'.objs.size (PySem.W.kla_obj "<lambda>" l.qual l.params l.body l.scope cl ((X.mg "__name__").getD .none) c' ctv)) := upd_same
    have off : ∀ b, b ≠ T → b ≠ c' → b ≠ h'.objs.size → upd (upd (upd H T (.tbl (ps ++ #[rawInt l.pos.line, rawInt l.pos.col, .ref c']))) c' (exO c' oc)) h'.objs.size (exO h'.objs.size (PySem.W.kla_obj "<lambda>" l.qual l.params l.body l.scope cl ((X.mg "__name__").getD .none) c' ctv)) b = H b := fun b h1 h2 h3 => by
      rw [upd_ne h3, upd_ne h2, upd_ne h1]
    have old : ∀ b o, s.heap.get? b = some o → b ≠ c' ∧ b ≠ h'.objs.size := fun b o e => ⟨Nat.ne_of_lt (Nat.lt_of_lt_of_le (Heap.lt_size e) hge), Nat.ne_of_lt (Nat.lt_of_lt_of_le (Heap.lt_size e) hszle)⟩
    refine h h'.objs.size _ _ (I.un (h' := h'.push (PySem.W.kla_obj "<lambda>" l.qual l.params l.body l.scope cl ((X.mg "__name__").getD .none) c' ctv)) (t' := tk)
      ⟨fun b o e n _ _ => Heap.get?_push_of_some _ (hx b o (fun z => by rw [z, hT] at n; cases n) e), fun b o e n _ _ => ⟨o.slots, Heap.get?_push_of_some _ (hx b o (fun z => by rw [z, hT] at n; cases n) e)⟩,
       fun b o e n _ => by rw [off b (fun z => by rw [z, hT] at n; cases n) (old b o e).1 (old b o e).2]; exact n,
       fun b o e _ => ?_, fun b xs e => at_ b _ e (by intro q z; cases z), fun b o u e => at_ b _ e (by intro q z; cases z), fun b q e => ?_⟩ fun b u e => ?_) (fun b u n e => by rw [off b n (ne_of_none e fc) (ne_of_none e ff)]; exact e) ⟨_, tb_, ?_, .inr ⟨c', oc, ?_, c_, vs, tt, hd, hv⟩⟩ ff ⟨c', oc, _, ctv, f_, c_, vs, tt, hd, hv⟩
    · by_cases z : b = T
      · exact ⟨_, by rw [z]; exact Heap.get?_push_of_some _ htb⟩
      · exact ⟨o, Heap.get?_push_of_some _ (hx b o z e)⟩
    · by_cases z : b = T
      · subst z
        rw [hT] at e; cases e
        exact ⟨_, tb_⟩
      · exact ⟨#[], by rw [off b z (ne_of_none e fc) (ne_of_none e ff), e, Array.append_empty]⟩
    · by_cases z1 : b = h'.objs.size
      · subst z1
        rw [f_] at e; cases e
        exact exO_ok (Heap.get?_push_size _ rfl)
      · by_cases z2 : b = c'
        · subst z2
          rw [c_] at e; cases e
          exact exO_ok (Heap.get?_push_of_some _ hoc)
        · by_cases z3 : b = T
          · subst z3
            rw [tb_] at e; cases e
            exact Heap.get?_push_of_some _ htb
          · rw [off b z3 z2 z1] at e
            refine (I.hok b u e).stay (fun d v hd q => Heap.get?_push_of_some _ (hx d v ?_ q)) (fun d q => at_ d _ q (by intro q z; cases z)) fun d xs q => at_ d _ q (by intro q z; cases z)
            rcases hd with z | z
            · rw [z]; exact z3
            · exact nT d _ z (by intro q z; cases z)
    · rw [Array.toList_append]
      exact TriplesOk_snoc _ _ _ _ tr
    · rw [Array.toList_append]
      exact codeAmong_snoc _ tr hnf
  · refine PySem.W.kla_makeFunctionHit hcl I.ok.glob hgs hcode (C.keeps I.bk) hP tr hf hb fun ctv h' tk hk hsz => ?_
    have ff : H h'.objs.size = none := I.hok.fresh hsz
    have at_ : ∀ b u, H b = some u → upd H h'.objs.size (exO h'.objs.size (PySem.W.kla_obj "<lambda>" l.qual l.params l.body l.scope cl ((X.mg "__name__").getD .none) c' ctv)) b = some u := fun b u e => by
      rw [upd_ne (ne_of_none e ff)]
      exact e
    exact h h'.objs.size _ _ (I.laid (h' := h'.push (PySem.W.kla_obj "<lambda>" l.qual l.params l.body l.scope cl ((X.mg "__name__").getD .none) c' ctv)) (t' := tk) (fun b u e => Heap.get?_push_of_some _ (hk b u e)) hsz (exO_ok (Heap.get?_push_size _ rfl))) (fun b u _ e => at_ b u e)
      ⟨ps, at_ _ _ hT, tr, .inr ⟨c', oc, hf, at_ _ _ hc', hoc⟩⟩ ff ⟨c', oc, _, ctv, upd_same, at_ _ _ hc', hoc⟩
def tLam (T : Addr) (l : Lam) (cl : List (Str × Addr)) : TE := fun _ H Q => TabAt H T l ∧ ∀ f H', SameX T H H' → TabAt H' T l → H f = none → LamAt H' f l cl → Q (.ref f) H'
end
/-! a call that shows the cells of this frame -/
structure Cov (N : List Str) (σ : St) (cl : List (Str × Addr)) (H G : Hp) : Prop where
  off : ∀ b, b ∉ cl.map (·.2) → G b = H b
  at_ : ∀ x c, (x, c) ∈ cl → H c = none ∧ ∃ o, G c = some (exO c o) ∧ ∀ (i : Nat) (v : V), N[i]? = some x → σ[i]? = some (some v) → ∃ u, o.data = .cell (some u) ∧ RelV v u
def unc (cl : List (Str × Addr)) (G : Hp) : Hp := fun b => if b ∈ cl.map (·.2) then none else G b
theorem unc_in {cl : List (Str × Addr)} {G : Hp} {b : Addr} (h : b ∈ cl.map (·.2)) : unc cl G b = none := if_pos h
theorem unc_out {cl : List (Str × Addr)} {G : Hp} {b : Addr} (h : b ∉ cl.map (·.2)) : unc cl G b = G b := if_neg h
def tCallC (N : List Str) (sp : Sp) (cl : List (Str × Addr)) (t : TA) : TE := fun σ H Q => t σ H fun vs H1 => ∀ G, Cov N σ cl H1 G → sp vs G (fun v G2 => (∀ p ∈ cl, G2 p.2 = G p.2) ∧ Q v (unc cl G2)) E0
section
variable {X : Cx} {j k : Nat} {ps : List Str} {sp : Sp} {x : Str} {p pos : Pos} {e : Expr} {es : List Expr} {t : TA} {cl : List (Str × Addr)}
end
/-! a lambda that is called -/
structure LamScope (N ps : List Str) (l : Lam) (cl : List (Str × Addr)) : Prop where
  kind : l.scope.kind = .function
  co : l.scope.isCoroutine = false
  gen : l.scope.isGenerator = false
  nd : N.Nodup
  pre : N.take ps.length = ps
  par : ∀ x ∈ ps, l.scope.names.lookup x = some .local
  post : ∀ (i : Nat) (x : Str), ps.length ≤ i → N[i]? = some x → l.scope.names.lookup x = some .free
  nocell : ∀ x ∈ l.scope.names, x.2 ≠ .cell
  fr : ∀ x, l.scope.names.lookup x = some .free → ∃ c, cl.lookup x = some c
  inj : ∀ x y c, cl.lookup x = some c → cl.lookup y = some c → x = y
  binds : ∀ (pm ctv : Value) (c' : Addr) (us : List Value), us.length = ps.length → bindArgs (PySem.W.kla_fn "<lambda>" l.qual l.params l.body l.scope cl pm (.ref c') ctv) ⟨us, []⟩ = pure (ps.zip us)
theorem lookup_nd {l : List (Str × Value)} : ∀ {x : Str} {v : Value}, (l.map (·.1)).Nodup → (x, v) ∈ l → l.lookup x = some v := by
  induction l with
  | nil => intro x v _ h; cases h
  | cons p l ih =>
    intro x v nd h
    obtain ⟨y, u⟩ := p
    rw [List.map_cons, List.nodup_cons] at nd
    rcases List.mem_cons.mp h with h | h
    · cases h
      rw [List.lookup_cons]
      simp
    · have ne : x ≠ y := fun z => nd.1 (z ▸ List.mem_map.mpr ⟨(x, v), h, rfl⟩)
      rw [List.lookup_cons, show (x == y) = false from beq_eq_false_iff_ne.mpr ne]
      exact ih nd.2 h
def lamCx (P : Program) (w : World) (K : PySem.W.Frag) (mg : Str → Option Value) (base : Heap) (N : List Str) (qual : Str) (scope : Scope) (f : Addr) (cd : Value) (cl : List (Str × Addr)) (A : Around) (outer : List Env) (s : Shared) (H : Hp) : Cx where
  prog := P
  w := w
  K := K
  mg := mg
  base := base
  A := A.deeper (PySem.W.envX qual scope s.heap.objs.size f cd cl)
  N := N
  s₀ := s
  H₀ := H
  env := PySem.W.envX qual scope s.heap.objs.size f cd cl
  outer := outer
  stack := PySem.W.envX qual scope s.heap.objs.size f cd cl :: outer
  ex := []
  calm := true
  fn := fun _ => false
  pn := []
  xe := fun _ _ => False
def rec_ (cl : List (Str × Addr)) (G H : Hp) : Hp := fun b => if b ∈ cl.map (·.2) then G b else H b
/-- the cells, with what they hold -/
def CellsAt (G : Hp) (N : List Str) (cl : List (Str × Addr)) (σ : St) : Prop := ∀ x c, cl.lookup x = some c → ∃ o u, G c = some (exO c o) ∧ o.data = .cell (some u) ∧ ∀ (i : Nat) (v : V), N[i]? = some x → σ[i]? = some (some v) → RelV v u
theorem run_lam {P : Program} {w : World} {K : PySem.W.Frag} {mg : Str → Option Value} {base : Heap} {k : Nat} {N ps : List Str} {l : Lam} {cl : List (Str × Addr)} (S : LamScope N ps l cl) {A : Around} {outer : List Env} {s : Shared} {G : Hp} {f : Addr} {us : List Value} {vs ws : List V} {Q : VK} {E : XK}
    (hr : Room (k + 1) A) (e0 : Env0 P w K mg base A outer s G) (r : Vals vs us) (hl : vs.length = ps.length) (hN : N.length = vs.length + ws.length) (L : LamAt G f l cl) (hc : CellsAt G N cl ((vs ++ ws).map some)) (hcm : ∀ p ∈ cl, ∃ x, cl.lookup x = some p.2)
    (hbody : ∀ c' : Addr, ∃ t, PE (lamCx P w K mg base N l.qual l.scope f (.ref c') cl A outer s (unc cl G)) l.body t ∧ t ((vs ++ ws).map some) (unc cl G) fun v H' => Q v (rec_ cl G H')) :
    codeAny (model P w) A (.call (.ref f) ⟨us, []⟩) (CR CX0 outer P w G s Q E) s := by
  obtain ⟨c', oc, pm, ctv, hf, hc', vs', tt, hd, hv⟩ := L
  have ho := exO_get (e0.hok _ _ hf)
  have hoc := exO_get (e0.hok _ _ hc')
  have lim : s.heap.NoLimit := e0.mod.nolimit.keeps fun b o e => (e0.bs b o e).1
  have lu : us.length = ps.length := by rw [← r.length]; exact hl
  have hloc : ∀ y ∈ ps.zip us, l.scope.names.lookup y.1 = some .local := fun ⟨n, v⟩ hy => S.par n (List.of_mem_zip hy).1
  obtain ⟨t, ht, hq⟩ := hbody c'
  refine PySem.W.kla_callFunE hr.depth ho rfl S.co S.gen rfl ⟨c', oc, vs', tt, rfl, hoc, hd, hv⟩ ?_
  rw [S.binds pm ctv c' us lu]
  refine wpAny_pure (wpAny_newFunctionEnv S.nocell hloc (fun h₁ hns hsb => ⟨lim.fresh _ hsb, ?_⟩) S.kind)
  show codeAny _ _ (.expr l.body (PySem.W.envX l.qual l.scope s.heap.objs.size f (.ref c') cl)) _ _
  have hk₁ : ∀ b o, s.heap.get? b = some o → h₁.get? b = some o := fun b o e => hsb.extBut b o (Nat.ne_of_lt (Heap.lt_size e)) (Heap.get?_push_of_some _ e)
  have cin : ∀ a, a ∈ cl.map (·.2) → ∃ x, cl.lookup x = some a := fun a ha => by
    obtain ⟨q, hq, rfl⟩ := List.mem_map.mp ha
    exact hcm q hq
  have cat : ∀ x a, cl.lookup x = some a → a ∈ cl.map (·.2) := fun x a h => List.mem_map.mpr ⟨(x, a), PySem.mem_of_lookup h, rfl⟩
  have cob : ∀ a, a ∈ cl.map (·.2) → ∃ o u, G a = some (exO a o) ∧ o.data = .cell (some u) ∧ s.heap.get? a = some o := fun a ha => by
    obtain ⟨x, hx⟩ := cin a ha
    obtain ⟨o, u, h1, h2, _⟩ := hc x a hx
    exact ⟨o, u, h1, h2, exO_get (e0.hok _ _ h1)⟩
  have hokU : HOk P w (unc cl G) h₁ := fun b u e => by
    by_cases z : b ∈ cl.map (·.2)
    · rw [unc_in z] at e; cases e
    · rw [unc_out z] at e
      have outs : ∀ d u2, G d = some u2 → (∀ o, u2 ≠ exO d o) → d ∉ cl.map (·.2) := fun d u2 e3 n z2 => by
        obtain ⟨o, _, h1, _⟩ := cob d z2
        rw [h1] at e3
        exact n o (Option.some.inj e3).symm
      exact (e0.hok b u e).stay (fun d v _ q => hk₁ _ _ q) (fun d q => by rw [unc_out (outs d _ q (by intro o z3; cases z3))]; exact q) fun d xs q => by rw [unc_out (outs d _ q (by intro o z3; cases z3))]; exact q
  have nofr : ∀ b, G b = none → unc cl G b = none := fun b n => by
    by_cases z : b ∈ cl.map (·.2)
    · exact unc_in z
    · rw [unc_out z]; exact n
  have noA : ∀ b : Addr, b ∉ ([] : List Addr) := fun b z => nomatch z
  have I : Inv (lamCx P w K mg base N l.qual l.scope f (.ref c') cl A outer s (unc cl G)) [] ((vs ++ ws).map some) (unc cl G) { s with heap := h₁, toks := s.toks + (ps.zip us).length } := by
    refine ⟨⟨e0.mod, S.kind, rfl, rfl, Nat.le_refl _, fun x y c h1 h2 => S.inj x y c h1 h2, fun y hy => ?_, fun y c z => (by cases z), fun _ => hr.hd, Around.frames_deeper e0.frames, .inr ⟨rfl, rfl⟩, fun b z => (nomatch z), fun b o e => ⟨(e0.bs b o e).1, nofr b (e0.bs b o e).2⟩, e0.bsz, fun b _ _ z => (nomatch z), fun b z => (nomatch z), e0.funs, fun b hb => nofr b (e0.frf b hb)⟩,
      rfl, e0.bare, Un.kept hk₁, ⟨_, hns, fun i x v e1 e2 e3 => ?_⟩, fun x c h => ?_, ?_, fun x c h => unc_in (cat x c h), fun p hp => (nomatch hp), hokU, ?_⟩
    · have hy' : l.scope.names.lookup y = some .cell ∨ l.scope.names.lookup y = some .free := hy
      rcases hy' with hy' | hy'
      · exact absurd rfl (S.nocell _ (PySem.mem_of_lookup hy'))
      · exact S.fr y hy'
    · have e1' : N[i]? = some x := e1
      have e3' : Vis l.scope x := e3
      rcases e3' with k1 | k1 | k1
      · have hi : i < ps.length := by
          rcases Nat.lt_or_ge i ps.length with z | z
          · exact z
          · rw [S.post i x z e1'] at k1; cases k1
        have hvi : vs[i]? = some v := by
          rw [List.getElem?_map, List.getElem?_append_left (by omega)] at e2
          cases e4 : vs[i]? with
          | none => rw [e4] at e2; cases e2
          | some a => rw [e4] at e2; cases e2; rfl
        obtain ⟨u, hu, rv⟩ := r.get hvi
        have hp : ps[i]? = some x := by rw [← S.pre, List.getElem?_take_of_lt hi]; exact e1'
        have ndP : ps.Nodup := by rw [← S.pre]; exact S.nd.sublist (List.take_sublist _ _)
        refine ⟨u, rv, .inl ⟨k1, ?_⟩⟩
        have hm : (x, u) ∈ ps.zip us := List.mem_of_getElem? (i := i) (by rw [List.getElem?_zip_eq_some]; exact ⟨hp, hu⟩)
        refine lookup_nd ?_ (List.mem_reverse.mpr hm)
        rw [List.map_reverse]
        have e5 : (ps.zip us).map (·.1) = ps := List.map_fst_zip (by omega)
        rw [e5]
        exact (List.reverse_perm ps).symm.nodup ndP
      · exact absurd rfl (S.nocell _ (PySem.mem_of_lookup k1))
      · obtain ⟨c, hcx⟩ := S.fr x k1
        obtain ⟨o, u, h1, h2, h3⟩ := hc x c hcx
        exact ⟨u, h3 i v e1' e2, .inr ⟨.inr k1, c, hcx, o, hk₁ _ _ (exO_get (e0.hok _ _ h1)), h2⟩⟩
    · obtain ⟨o, u, h1, h2, h3⟩ := cob c (cat x c h)
      exact ⟨some u, o, hk₁ _ _ h3, h2⟩
    · exact nofr _ (e0.hok.fresh (Nat.le_refl _))
    · rw [List.length_map, List.length_append]
      exact hN.symm
  refine PySem.W.kla_codeExpr (wpAny_mono (ht [] _ _ _ _ I hq) (fun v s' hv => ?_) fun _ _ z => False.elim z)
  obtain ⟨x, H', J, rv, hQ⟩ := hv
  have un : Un (frs outer) [] (unc cl G) H' s.heap s'.heap := J.base
  have ncl : ∀ a, a ∈ cl.map (·.2) → ∀ o, s.heap.get? a = some o → H' a = none ∧ s'.heap.get? a = some o := fun a ha o e => by
    obtain ⟨o2, u, h1, h2, h3⟩ := cob a ha
    have nf : a ∉ frs outer := fun z => by rw [e0.frf a z] at h1; cases h1
    exact ⟨un.free a o e (unc_in ha) (by simp), un.keep a o e (unc_in ha) nf (by simp)⟩
  refine ⟨x, rec_ cl G H', J.os, J.bare, ⟨fun b o e n hb hx => un.keep b o e (nofr b n) hb hx, fun b o e n hb hx => un.slot b o e (nofr b n) hb hx, fun b o e n hx => ?_, fun b o e hx => un.there b o e hx, fun b xs e => ?_, fun b o u e => ?_, fun b q e => ?_⟩, fun b u e => ?_, rv, hQ⟩
  · have z : b ∉ cl.map (·.2) := fun z => by
      obtain ⟨o2, u, h1, _⟩ := cob b z
      rw [n] at h1; cases h1
    show (if b ∈ cl.map (·.2) then G b else H' b) = none
    rw [if_neg z]
    exact un.free b o e (nofr b n) hx
  · have z : b ∉ cl.map (·.2) := fun z => by
      obtain ⟨o2, u, h1, _⟩ := cob b z
      rw [e] at h1; cases h1
    show (if b ∈ cl.map (·.2) then G b else H' b) = _
    rw [if_neg z]
    exact un.tups b xs (by rw [unc_out z]; exact e)
  · have z : b ∉ cl.map (·.2) := fun z => by
      obtain ⟨o2, u, h1, _⟩ := cob b z
      rw [e] at h1; cases h1
    show (if b ∈ cl.map (·.2) then G b else H' b) = _
    rw [if_neg z]
    exact un.frzs b o u (by rw [unc_out z]; exact e)
  · have z : b ∉ cl.map (·.2) := fun z => by
      obtain ⟨o2, u, h1, _⟩ := cob b z
      rw [e] at h1; cases h1
    obtain ⟨m1, e3⟩ := un.tbls b q (by rw [unc_out z]; exact e)
    refine ⟨m1, ?_⟩
    show (if b ∈ cl.map (·.2) then G b else H' b) = _
    rw [if_neg z]
    exact e3
  · have e' : (if b ∈ cl.map (·.2) then G b else H' b) = some u := e
    by_cases z : b ∈ cl.map (·.2)
    · rw [if_pos z] at e'
      obtain ⟨o2, u2, h1, h2, h3⟩ := cob b z
      rw [h1] at e'; cases e'
      exact exO_ok (ncl b z o2 h3).2
    · rw [if_neg z] at e'
      have outs : ∀ d u2, H' d = some u2 → d ∉ cl.map (·.2) := fun d u2 e3 z2 => by
        obtain ⟨o, _, _, _, h3⟩ := cob d z2
        rw [(ncl d z2 o h3).1] at e3; cases e3
      refine (J.hok b u e').stay (fun d v _ q => q) (fun d q => ?_) fun d xs q => ?_
      · show (if d ∈ cl.map (·.2) then G d else H' d) = _
        rw [if_neg (outs d _ q)]; exact q
      · show (if d ∈ cl.map (·.2) then G d else H' d) = _
        rw [if_neg (outs d _ q)]; exact q
/-! a function that is called by a name of this def -/
structure LCal (P : Program) (w : World) (K : PySem.W.Frag) (mg : Str → Option Value) (base : Heap) (k : Nat) (L : Addr → List V → Hp → VK → Prop) : Prop where
  fn : ∀ f vs H Q, L f vs H Q → ∃ o fd, H f = some (exO f o) ∧ o.data = .func fd
  run : ∀ (f : Addr) (A : Around) (outer : List Env) (s : Shared) (H : Hp) (us : List Value) (vs : List V) (Q : VK), Room k A → Env0 P w K mg base A outer s H → Vals vs us → L f vs H Q →
    codeAny (model P w) A (.call (.ref f) ⟨us, []⟩) (CR CX0 outer P w H s Q E0) s
def tCallF (i : Nat) (L : Addr → List V → Hp → VK → Prop) (t : TA) : TE := fun σ H Q => ∃ f o fd, σ[i]? = some (some (.ref f)) ∧ H f = some (exO f o) ∧ o.data = .func fd ∧ t σ H fun vs H1 => L f vs H1 Q
theorem fn_at {P : Program} {w : World} {H : Hp} {h : Heap} {f : Addr} {o : Obj} {fd : FuncData} (ok : HOk P w H h) (e : H f = some (exO f o)) (d : o.data = .func fd) : PySem.W.FnAt f h := by
  have := exO_get (ok _ _ e)
  obtain ⟨a, b, c, d'⟩ := o
  cases d
  exact ⟨_, _, _, _, this⟩
/-- the lambda that a def hands on in what it gives back -/
def lamIn (q : Str) (st : Stmt) : Lam := match (defBody st).getLast? with
  | some (.Return (some (.Call _ as _ _)) _) => (match as.getLast? with
    | some (.Lambda ps b sc pos) => ⟨q, ps, b, sc, pos⟩
    | _ => ⟨q, defArgs st, .Name "" ⟨0, 0, 0, 0⟩, defScope st, ⟨0, 0, 0, 0⟩⟩)
  | _ => ⟨q, defArgs st, .Name "" ⟨0, 0, 0, 0⟩, defScope st, ⟨0, 0, 0, 0⟩⟩
theorem TabAt.same {H H' : Hp} {T : Addr} {l : Lam} (s : ∀ a o, H a = some o → H' a = some o) (h : TabAt H T l) : TabAt H' T l := by
  obtain ⟨ps, h1, h2, h3⟩ := h
  exact ⟨ps, s _ _ h1, h2, h3.imp id fun ⟨c, o, g1, g2, g3⟩ => ⟨c, o, g1, s _ _ g2, g3⟩⟩
theorem LamAt.same {H H' : Hp} {f : Addr} {l : Lam} {cl : List (Str × Addr)} (s : ∀ a o, H a = some o → H' a = some o) (h : LamAt H f l cl) : LamAt H' f l cl := by
  obtain ⟨c, oc, pm, ctv, h1, h2, h3⟩ := h
  exact ⟨c, oc, pm, ctv, s _ _ h1, s _ _ h2, h3⟩
theorem Cov.same {N : List Str} {σ : St} {cl : List (Str × Addr)} {H G : Hp} (c : Cov N σ cl H G) : ∀ a o, H a = some o → G a = some o := fun a o e => by
  rw [c.off a fun z => ?_]
  · exact e
  · obtain ⟨p, hp, rfl⟩ := List.mem_map.mp z
    have := (c.at_ p.1 p.2 hp).1
    rw [e] at this; cases this
theorem TabAt.start {H : Hp} {T : Addr} {l : Lam} (h : H T = some (.tbl #[])) : TabAt H T l := ⟨#[], h, trivial, .inl rfl⟩
theorem SqL.stayT {K : PySem.W.Frag} {H H' : Hp} {a : Addr} {xs : List V} (s : SameT H H') (h : SqL K H a xs) : SqL K H' a xs := by
  rcases h with (h | ⟨o, h⟩) | h
  · exact .inl (.inl (s _ _ h (by intro p z; cases z)))
  · exact .inl (.inr ⟨o, s _ _ h (by intro p z; cases z)⟩)
  · exact .inr h
end L2

set_option Elab.async false
set_option linter.all false
set_option maxRecDepth 100000
namespace L2
open PySem PySem.Spec PyProof.Rows
/-! A law whose program makes lambdas: the tables of code are tracked from the start. -/
structure FunC (K : PySem.W.Frag) (x qual : Str) (st : Stmt) (f : Addr) (fd : FuncData) (c : Addr) : Prop where
  ex : ∃ (oc : Value) (od : Option Addr) (kV doc pm : Value) (an : Option Addr) (ct : Value) (osl : Array (Option Value)),
    fd = PySem.W.fnOf x qual (defArgs st) (defBody st) (defScope st) .none kV doc pm an (.ref c) ct ∧ K.lookup f = some ⟨oc, od, .func fd, osl⟩ ∧ PySem.W.codeIn K (.ref c) qual = true
  kp : PySem.W.keepIn K (.ref f) = true
section
variable {P : Program} {w : World} {K : PySem.W.Frag} {mg : Str → Option Value} {base : Heap}
theorem FunC.binds {x qual : Str} {st : Stmt} {f c : Addr} {fd : FuncData} {ps : List Str} (F : FunC K x qual st f fd c)
    (h : ∀ (kV doc pm : Value) (an : Option Addr) (cdv ct : Value) (us : List Value), us.length = ps.length → bindArgs (PySem.W.fnOf x qual (defArgs st) (defBody st) (defScope st) .none kV doc pm an cdv ct) ⟨us, []⟩ = pure (ps.zip us)) : Binds K fd ps [] := by
  obtain ⟨oc, od, kV, doc, pm, an, ct, osl, rfl, lk, hcd⟩ := F.ex
  exact .all (h kV doc pm an (.ref c) ct)
theorem func_mk {x qual : Str} {st : Stmt} {f c : Addr} {oc : Value} {od an : Option Addr} {osl : Array (Option Value)} {kV doc pm ct : Value} (l : K.lookup f = some ⟨oc, od, .func (PySem.W.fnOf x qual (defArgs st) (defBody st) (defScope st) .none kV doc pm an (.ref c) ct), osl⟩)
    (h : PySem.W.codeIn K (.ref c) qual = true) (k : PySem.W.keepIn K (.ref f) = true) : FunC K x qual st f (PySem.W.fnOf x qual (defArgs st) (defBody st) (defScope st) .none kV doc pm an (.ref c) ct) c := ⟨⟨oc, od, kV, doc, pm, an, ct, osl, rfl, l, h⟩, k⟩
end
theorem law_callT {P : Program} {w : World} {K : PySem.W.Frag} {mg mb : Str → Option Value} {CX : CXT} {k : Nat} {fa a : Addr} {fd : FuncData} {x : Str} {sp : Sp} {s₁ : Shared} {vs : List Value} {ns : List Int} {tabs : List (Addr × Addr)}
    (KX : K.In s₁.heap) (hns : s₁.heap.Ns mainGlobals mg) (hb : s₁.heap.Ns builtinsNs mb) (hbb : ∀ x : Str, x ≠ "__name__" → mb x = bootBuiltins x) (hlim : s₁.heap.NoLimit) (hbm : BltM mg s₁.heap) (hg : s₁.gens = #[])
    (hT : PySem.W.TabsAt tabs s₁.heap) (hnt : PySem.W.noTabs K = true)
    (ha : s₁.heap.get? a = some { cls := .type "list", data := .seq vs.toArray }) (hi : IntsAre vs ns) (hl : ns.length ≤ sizeLine) (hr : Room k callerA)
    (F : ∀ base : Heap, K.In base → base.Ns mainGlobals mg → BltM mg base → FnOk P w K mg base CX k fa fd [x] sp) (hbind : ∀ (s : Shared) (u : Value), BindsTo s fd ⟨[u], []⟩ [(x, u)])
    (hsp : ∀ H : Hp, SqL K H a (ns.map V.int) → (∀ q ∈ tabs, H q.2 = some (.tbl #[])) → sp [.ref a] H (fun v _ => v = .bl true) fun _ _ _ => False)
    (hCX : ∀ H e s', CX [] H s₁ (fun _ _ _ => False) e s' → False) :
    codeAny (model P w) callerA (.call (.ref fa) ⟨[.ref a], []⟩) (fun r s' => r = .ok (.ret (.bool true)) ∧ OldK s₁.heap s'.heap ∧ s'.os = s₁.os ∧ AllBare s'.gens) s₁ := by
  have rv := vals_ints hi
  have lenV := hi.length
  have tat : ∀ b, b ∈ tabs.map (·.2) → s₁.heap.get? b = some (PySem.W.tabObj #[]) := fun b hb => by
    obtain ⟨q, hq, rfl⟩ := List.mem_map.mp hb
    exact (hT q hq).2
  have core : ∀ H : Hp, (∀ b u, H b = some u → (b ∈ tabs.map (·.2) ∧ u = .tbl #[]) ∨ ∃ o xs, b = a ∧ u = .frz o (.lst xs) ∧ K.lookup a = none) → (∀ b, b ∈ tabs.map (·.2) → H b = some (.tbl #[])) → SqL K H a (ns.map V.int) → HOk P w H s₁.heap →
      codeAny (model P w) callerA (.call (.ref fa) ⟨[.ref a], []⟩) (fun r s' => r = .ok (.ret (.bool true)) ∧ OldK s₁.heap s'.heap ∧ s'.os = s₁.os ∧ AllBare s'.gens) s₁ := by
    intro H hO hTb hS hok
    have base_of : ∀ {b : Addr} {o : Obj}, s₁.heap.get? b = some o → H b = none → (hidT s₁.heap H).get? b = some o := fun e n => hidT_get e n
    have noA : ∀ {b : Addr} {o : Obj}, s₁.heap.get? b = some o → o ≠ PySem.W.tabObj #[] → o.cls ≠ .type "list" → H b = none := fun {b o} e n1 n2 => by
      cases q : H b with
      | none => rfl
      | some u =>
        rcases hO b u q with ⟨z, _⟩ | ⟨_, _, z, _⟩
        · rw [tat b z] at e; exact (n1 (Option.some.inj e).symm).elim
        · rw [z, ha] at e; cases e; exact (n2 rfl).elim
    have nsK : ∀ {b : Addr} {m : Str → Option Value}, s₁.heap.Ns b m → (hidT s₁.heap H).Ns b m := fun {b m} ⟨o, es, ep, e, d, r⟩ => by
      refine ⟨o, es, ep, base_of e ?_, d, r⟩
      cases q : H b with
      | none => rfl
      | some u =>
        rcases hO b u q with ⟨z, _⟩ | ⟨_, _, z, _⟩
        · rw [tat b z] at e; cases e; cases d
        · rw [z, ha] at e; cases e
          have d' : Data.seq vs.toArray _ = Data.dict es ep := d
          cases d'
    have hKb : K.In (hidT s₁.heap H) := fun b o e => base_of (KX b o e) (by
      cases q : H b with
      | none => rfl
      | some u =>
        rcases hO b u q with ⟨z, _⟩ | ⟨_, _, z, _, z2⟩
        · have e1 := KX b o e
          rw [tat b z] at e1
          cases e1
          have h2 := List.all_eq_true.mp hnt (b, _) (PySem.W.mem_of_lookupK e)
          exact absurd (show false = true from h2) Bool.false_ne_true
        · rw [z, z2] at e; cases e)
    have hbmb : BltM mg (hidT s₁.heap H) := by
      obtain ⟨bm, ob, b1, b2, b3, b4, b5, b6⟩ := hbm
      exact ⟨bm, ob, b1, b2, base_of b3 (noA b3 (fun z => by rw [z] at b4; cases b4) (by rw [b4]; decide)), b4, b5, b6⟩
    have hM : Mod K mg (hidT s₁.heap H) := ⟨hKb, nsK hns, ⟨mb, nsK hb, hbb⟩, let ⟨mc, h1, h2⟩ := hlim; ⟨mc, nsK h1, h2⟩⟩
    have e0 : Env0 P w K mg (hidT s₁.heap H) callerA [] s₁ H := ⟨rfl, hM, fun b o e => of_hidT e, Nat.le_of_eq (hidT_size _ _), trivial, fun b hb => absurd (show b ∈ ([] : List Addr) from hb) (by simp), hok, .of_eq hg⟩
    refine codeAny_mono ((F _ hKb (nsK hns) hbmb).run callerA [] s₁ H ⟨[.ref a], []⟩ [.ref a] [.ref a] _ _ hr e0 (hbind s₁ (.ref a)) (.cons rfl .nil) (hsp H hS fun q hq => hTb q.2 (List.mem_map.mpr ⟨q, hq, rfl⟩))) fun r s' h => ?_
    cases r with
    | error e => exact (hCX H e s' h).elim
    | ok fl =>
      cases fl with
      | next => exact False.elim h
      | brk => exact False.elim h
      | cont => exact False.elim h
      | ret u =>
        obtain ⟨v, H', os, bare, un, hok', r', q⟩ := h
        have q' : v = .bl true := q
        subst q'
        obtain rfl : u = Value.bool true := r'
        refine ⟨rfl, ⟨fun b o e => ?_, fun b o e => un.there b o e (by simp)⟩, os, bare⟩
        cases q : H b with
        | none => exact .inl (un.keep b o e q (by intro z; exact absurd (show b ∈ ([] : List Addr) from z) (by simp)) (by simp))
        | some u =>
          rcases hO b u q with ⟨z, rfl⟩ | ⟨ob, xs, rfl, rfl, _⟩
          · obtain ⟨more, e2⟩ := un.tbls b _ q
            have e3 : s'.heap.get? b = some (PySem.W.tabObj (#[] ++ more)) := hok' b _ e2
            have e4 := tat b z
            rw [e] at e4; cases e4
            obtain ⟨p, hp, rfl⟩ := List.mem_map.mp z
            exact .inr (.inl ⟨((hT p hp).1.tab (hT p hp).2).isCodeTable, rfl, #[], more, rfl, e3⟩)
          · have z2 := un.frzs b ob _ q
            obtain ⟨e1, _⟩ := hok b _ q
            obtain ⟨e2, _⟩ := hok' b _ z2
            rw [e] at e1; cases e1
            exact .inl e2
  have nat : a ∉ tabs.map (·.2) := fun z => by rw [tat a z] at ha; cases ha
  cases hk : K.lookup a with
  | some o =>
    have e := KX a o hk
    rw [ha] at e
    cases e
    refine core (fun b => if b ∈ tabs.map (·.2) then some (.tbl #[]) else none) (fun b u e => ?_) (fun b hb => if_pos hb) (.inr ⟨_, vs.toArray, _, hk, rfl, rfl, rfl, by rw [List.size_toArray, lenV]; exact hl, by simpa using rv⟩) (fun b u e => ?_)
    · by_cases z : b ∈ tabs.map (·.2)
      · exact .inl ⟨z, (Option.some.inj ((if_pos z).symm.trans e)).symm⟩
      · have := (if_neg z).symm.trans e; cases this
    · by_cases z : b ∈ tabs.map (·.2)
      · have := (if_pos z).symm.trans e; cases this
        exact tat b z
      · have := (if_neg z).symm.trans e; cases this
  | none =>
    refine core (fun b => if b ∈ tabs.map (·.2) then some (.tbl #[]) else if b = a then some (.frz { cls := .type "list", data := .seq vs.toArray } (.lst (ns.map V.int))) else none) (fun b u e => ?_) (fun b hb => if_pos hb) (.inl (.inr ⟨{ cls := .type "list", data := .seq vs.toArray }, (if_neg nat).trans (if_pos rfl)⟩)) (fun b u e => ?_)
    · by_cases z : b ∈ tabs.map (·.2)
      · exact .inl ⟨z, (Option.some.inj ((if_pos z).symm.trans e)).symm⟩
      · have e := (if_neg z).symm.trans e
        by_cases z2 : b = a
        · exact .inr ⟨_, _, z2, (Option.some.inj ((if_pos z2).symm.trans e)).symm, hk⟩
        · have := (if_neg z2).symm.trans e; cases this
    · by_cases z : b ∈ tabs.map (·.2)
      · have := (if_pos z).symm.trans e; cases this
        exact tat b z
      · have e := (if_neg z).symm.trans e
        by_cases z2 : b = a
        · have := (if_pos z2).symm.trans e
          cases this
          subst z2
          exact ⟨ha, by rw [List.length_map]; exact hl, vs, _, rv, ha⟩
        · have := (if_neg z2).symm.trans e; cases this
theorem walk_ofT {l : PySem.W.OpenLaw} {n k : Nat} {q : Program} {loose : List Str} {XP : (Str → Option Value) → Heap → Prop} {YP : World → Heap → Prop} {d : DefRec} {K : Params → PySem.W.Frag} {CX : World → CXT} {sp : World → Sp} {x : Str} {tabs : List (Addr × Addr)}
    (hn : l.most = some n) (hn2 : n ≤ sizeLine) (hdf : d.params.defaults = []) (hr : Room k callerA)
    (hY : ∀ (w : World) (h : Heap), YP w h → (K w.params).In h ∧ PySem.W.TabsAt tabs h) (hnt : ∀ w : World, PySem.W.noTabs (K w.params) = true)
    (F : ∀ (w : World) (mg : Str → Option Value) (fa : Addr) (h : Heap), (K w.params).In h → h.Ns mainGlobals mg → mg d.name = some (.ref fa) →
      ∃ fd : FuncData, (∀ (s : Shared) (u : Value), BindsTo s fd ⟨[u], []⟩ [(x, u)]) ∧
        ∀ base : Heap, (K w.params).In base → base.Ns mainGlobals mg → BltM mg base → FnOk l.prog w (K w.params) mg base (CX w) k fa fd [x] (sp w))
    (hsp : ∀ (w : World) (H : Hp) (a : Addr) (ns : List Int), ns.length ≤ n → SqL (K w.params) H a (ns.map V.int) → (∀ q ∈ tabs, H q.2 = some (.tbl #[])) → sp w [.ref a] H (fun v _ => v = .bl true) fun _ _ _ => False)
    (hCX : ∀ (w : World) (H : Hp) (s : Shared) (e : Value) (s' : Shared), CX w [] H s (fun _ _ _ => False) e s' → False) :
    PySem.W.WalkO q loose XP YP l.row.toRowW d [] (fun f vs => PySem.call f vs) := by
  refine Att.attach_call hn hdf fun w s₀ s₁ mg mb fa o pm cd doc a vs ns G Y ho hd hcd hmg hobj hints hlen hg => ?_
  obtain ⟨KX, TX⟩ := hY w _ Y
  obtain ⟨fd, hb, hF⟩ := F w mg fa _ KX G.T.g hmg
  have hbm : BltM mg s₁.heap := G.T.bmain
  exact law_callT KX G.T.g G.T.b G.T.builtins G.T.nolimit hbm hg TX (hnt w) hobj hints (Nat.le_trans hlen hn2) hr hF hb (fun H hS hT => hsp w H a ns hlen hS hT) fun H e s' => hCX w H s₁ e s'
end L2

set_option Elab.async false
set_option linter.all false
set_option maxRecDepth 100000
namespace L2
open PySem PySem.Spec PyProof.Rows
section
variable {X : Cx}
/-- isinstance of a tuple that is read -/
def rIsiT (K : PySem.W.Frag) (c : V) (cv : Value) : List V → Hp → VK → Prop := fun xs H Q => ∃ a ys b, xs = [.ref a, c] ∧ SqT K H a ys ∧ PySem.W.kitOne K (.type "tuple") cv = some b ∧ Q (.bl b) H
end
end L2

set_option Elab.async false
set_option linter.all false
set_option maxRecDepth 100000
namespace L2
open PySem PySem.Spec PyProof.Rows
/-! A lambda that a def hands back; a call of what an expression gives. -/
theorem cover {X : Cx} {pins : List (Addr × Obj)} {σ : St} {H : Hp} {s : Shared} {cl : List (Str × Addr)} (I : Inv X pins σ H s) (hcl : ∀ y a, (y, a) ∈ cl → X.env.cells.lookup y = some a ∧ X.env.kindOf y = some .cell ∧ X.fn y = true) :
    ∃ G : Hp, Cov X.N σ cl H G ∧ HOk X.prog X.w G s.heap ∧ ∀ a, a ∈ cl.map (·.2) → X.s₀.heap.objs.size ≤ a ∧ H a = none := by
  have cin : ∀ a, a ∈ cl.map (·.2) → ∃ y, (y, a) ∈ cl := fun a ha => by
    obtain ⟨q, hq, rfl⟩ := List.mem_map.mp ha
    exact ⟨q.1, hq⟩
  have cob : ∀ y a, (y, a) ∈ cl → ∃ o v, s.heap.get? a = some o ∧ o.data = .cell v := fun y a hm => by
    obtain ⟨v, o, ho, hd⟩ := I.cell y a (hcl y a hm).1
    exact ⟨o, v, ho, hd⟩
  have cno : ∀ a, a ∈ cl.map (·.2) → H a = none := fun a ha => by
    obtain ⟨y, hm⟩ := cin a ha
    exact I.freeC y a (hcl y a hm).1
  have cge : ∀ a, a ∈ cl.map (·.2) → X.s₀.heap.objs.size ≤ a := fun a ha => by
    obtain ⟨y, hm⟩ := cin a ha
    exact I.ok.cab y a (hcl y a hm).2.2 (hcl y a hm).1
  have G_ : ∃ G : Hp, (∀ b, b ∉ cl.map (·.2) → G b = H b) ∧ ∀ a o, a ∈ cl.map (·.2) → s.heap.get? a = some o → G a = some (exO a o) :=
    ⟨fun b => if b ∈ cl.map (·.2) then (s.heap.get? b).map (exO b) else H b, fun b hb => if_neg hb, fun a o ha e => (if_pos ha).trans (by rw [e]; rfl)⟩
  obtain ⟨G, Goff, Gat⟩ := G_
  have trk : ∀ b u, H b = some u → b ∉ cl.map (·.2) := fun b u e z => by rw [cno b z] at e; cases e
  refine ⟨G, ⟨Goff, fun y a hm => ?_⟩, fun b u e2 => ?_, fun a ha => ⟨cge a ha, cno a ha⟩⟩
  · have ha : a ∈ cl.map (·.2) := List.mem_map.mpr ⟨(y, a), hm, rfl⟩
    obtain ⟨o, v, ho, hd⟩ := cob y a hm
    refine ⟨cno a ha, o, Gat a o ha ho, fun i w e1 e2 => ?_⟩
    obtain ⟨mm, hn, hl⟩ := I.loc
    have hkk : X.env.scope.names.lookup y = some .cell := (hcl y a hm).2.1
    obtain ⟨u, ru, lk⟩ := hl i y w e1 e2 (.inr (.inl hkk))
    rcases lk with ⟨k1, _⟩ | ⟨_, a2, l2, o2, ho2, hd2⟩
    · rw [(hcl y a hm).2.1] at k1; cases k1
    · rw [(hcl y a hm).1] at l2; cases l2
      rw [ho] at ho2; cases ho2
      exact ⟨u, hd2, ru⟩
  · by_cases hb : b ∈ cl.map (·.2)
    · obtain ⟨y, hm⟩ := cin b hb
      obtain ⟨o, v, ho, _⟩ := cob y b hm
      rw [Gat b o hb ho] at e2; cases e2
      exact exO_ok ho
    · rw [Goff b hb] at e2
      exact (I.hok b u e2).stay (fun d v _ q => q) (fun d q => by rw [Goff d (trk d _ q)]; exact q) fun d xs q => by rw [Goff d (trk d _ q)]; exact q
section
variable {P : Program} {w : World} {K : PySem.W.Frag} {mg : Str → Option Value} {base : Heap}
/-- a def whose body is one statement and a lambda that it hands back -/
theorem FunC.okRet {x qual : Str} {st st1 : Stmt} {f c T : Addr} {fd : FuncData} {N ps : List Str} {k : Nat} {sp : Sp} {l : Lam} {rp : Pos} {clf : Addr → List (Str × Addr)} (F : FunC K x qual st f fd c) (S : FnScope N ps (defScope st)) (C : PySem.W.CodeHd base c T) (B : BltM mg base)
    (hb : defBody st = [st1, .Return (some (.Lambda l.params l.body l.scope l.pos)) rp]) (hq : ∀ L : Addr, (envOfC qual (defScope st) L f (.ref c)).qual ++ "<lambda>" = l.qual) (hdef : ∀ env, defaultsOf l.params env = ([], []))
    (hcl : ∀ L : Addr, closureFor l.scope (envOfC qual (defScope st) L f (.ref c)) = pure (clf L)) (hcc : ∀ L y a, (y, a) ∈ clf L → (envOfC qual (defScope st) L f (.ref c)).cells.lookup y = some a ∧ (envOfC qual (defScope st) L f (.ref c)).kindOf y = some .cell)
    (len : ∀ vs H Q E, sp vs H Q E → vs.length = ps.length)
    (hbody : ∀ (A : Around) (outer : List Env) (s : Shared) (H : Hp) (vs : List V) (Q : VK) (E : XK), Room k (A.deeper (envOfC qual (defScope st) s.heap.objs.size f (.ref c))) → sp vs H Q E →
      ∃ t, PS (cxOf CX0 P w K mg base N qual (defScope st) f (.ref c) A outer s H E).nox st1 t ∧ t { nx := fun σ1 H1 => TabAt H1 T l ∧ ∀ f' H2, SameX T H1 H2 → TabAt H2 T l → H1 f' = none → LamAt H2 f' l (clf s.heap.objs.size) → ∀ G, Cov N σ1 (clf s.heap.objs.size) H2 G → Q (.ref f') G, rt := fun _ _ => False } (start N vs) H) : FnOk P w K mg base CX0 (k + 1) f fd ps sp := by
  obtain ⟨oc, od, kV, doc, pm, an, ct, osl, rfl, lk, hcd⟩ := F.ex
  refine ⟨len, fun A outer s H args us vs Q E hr e0 hbd r hsp => ?_⟩
  have hl := len _ _ _ _ hsp
  have KX : K.In s.heap := e0.mod.kin.keeps fun b o e => (e0.bs b o e).1
  have lim : s.heap.NoLimit := e0.mod.nolimit.keeps fun b o e => (e0.bs b o e).1
  have hkind : ∀ y ∈ ps.zip us, (defScope st).names.lookup y.1 = some .local ∨ ((defScope st).names.lookup y.1 = some .cell ∧ ((cellsFrom (s.heap.objs.size + 1) (defScope st).names []).lookup y.1).isSome = true) := fun ⟨n, v⟩ hy => by
    rcases S.par n (List.of_mem_zip hy).1 with q | q
    · exact .inl q
    · exact .inr ⟨q, PySem.W.cellsFrom_some _ _ _ (.inl q)⟩
  refine codeAny_call_function hr.depth (KX _ _ lk) rfl S.co S.gen rfl (PySem.W.codeRec_of KX hcd) (hbd _ _ _ _ ?_)
  refine wpAny_newFunctionEnv_cells S.kind hkind fun env he s1 x => ?_
  subst he
  refine ⟨lim.keeps x.toInCall.keep, codeAny_func ?_⟩
  obtain ⟨t, ht, hq'⟩ := hbody A outer s H vs Q E (hr.deeper _) hsp
  have I : Inv (cxOf CX0 P w K mg base N qual (defScope st) f (.ref c) A outer s H E) [] (start N vs) H s1 := inv_start S hr.hd e0 hl r x
  rw [hb]
  refine wpAny_execs_cons (wpAny_mono (ht [] s1 (start N vs) H _ (I.wish _) hq') (fun fl s2 hs => ?_) fun _ _ z => False.elim z)
  have hs := hs.unwish
  cases fl with
  | brk =>
    obtain ⟨_, _, _, q⟩ := hs
    exact False.elim q
  | cont =>
    obtain ⟨_, _, _, q⟩ := hs
    exact False.elim q
  | ret u =>
    obtain ⟨_, _, _, _, _, q⟩ := hs
    exact False.elim q
  | next =>
    obtain ⟨σ1, H1, I1, tb, q⟩ := hs
    have I1w : Inv (cxOf CX0 P w K mg base N qual (defScope st) f (.ref c) A outer s H E).nox [] σ1 H1 s2 := I1.wish _
    have hcode : (cxOf CX0 P w K mg base N qual (defScope st) f (.ref c) A outer s H E).nox.env.code = .ref c := rfl
    have hcl' : closureFor l.scope (cxOf CX0 P w K mg base N qual (defScope st) f (.ref c) A outer s H E).nox.env = pure (clf s.heap.objs.size) := hcl _
    have hq2 : (cxOf CX0 P w K mg base N qual (defScope st) f (.ref c) A outer s H E).nox.env.qual ++ "<lambda>" = l.qual := hq _
    have ml := make_lam (Q := fun v s3 => CE outer P w H s Q v s3) I1w hcode C B hq2 (hdef _) hcl' tb
    refine wpAny_execs_cons (wpAny_Return_some (wpAny_mono (ml fun f' H2 s3 I2 sx tb2 fr la => ?_) (fun _ _ z => z) fun _ _ z => False.elim z))
    have I2 := I2.unwish
    obtain ⟨G, cov, hok, cge⟩ := cover (cl := clf s.heap.objs.size) I2 fun y a hm => ⟨(hcc _ y a hm).1, (hcc _ y a hm).2, rfl⟩
    have base0 : Un (frs outer) [] H H2 s.heap s3.heap := I2.base
    have offs : ∀ b u, H2 b = some u → G b = some u := fun b u e => by
      rw [cov.off b fun z => ?_]
      · exact e
      · rw [(cge b z).2] at e; cases e
    have un : Un (frs outer) [] H G s.heap s3.heap := by
      refine ⟨fun b o e n h1 h2 => base0.keep b o e n h1 h2, fun b o e n h1 h2 => base0.slot b o e n h1 h2, fun b o e n hx => ?_, fun b o e hx => base0.there b o e hx, fun b xs e => offs _ _ (base0.tups b xs e), fun b o u e => offs _ _ (base0.frzs b o u e), fun b ps e => ?_⟩
      · rw [cov.off b fun z => ?_]
        · exact base0.free b o e n hx
        · exact absurd (Nat.lt_of_lt_of_le (Heap.lt_size e) (cge b z).1) (Nat.lt_irrefl _)
      · obtain ⟨m, e2⟩ := base0.tbls b ps e
        exact ⟨m, offs _ _ e2⟩
    have hok' : HOk P w G s3.heap := hok
    have hQ : Q (.ref f') G := q f' H2 sx tb2 fr la G cov
    exact ⟨.ref f', G, I2.os, I2.bare, un, hok', rfl, hQ⟩
end
/-! a call, without arguments, of what an expression gives -/
def tCallE (te : TE) (L : Addr → List V → Hp → VK → Prop) : TE := fun σ H Q => te σ H fun v H1 => ∃ f, v = .ref f ∧ L f [] H1 Q
theorem pe_callE {X : Cx} {j k : Nat} {pos : Pos} {fe : Expr} {te : TE} {L : Addr → List V → Hp → VK → Prop} (c : LCal X.prog X.w X.K X.mg X.base k L) (hr : Room j X.A) (he : PE X fe te) (hk : k ≤ j := by decide)
    (ht : eval (.Call fe [] [] pos) X.env = (do callWith pos (← eval fe X.env) [] (backTo pos (starEach [] X.env)) (backToKw pos (keywordEach [] X.env))) := by rfl) : PE X (.Call fe [] [] pos) (tCallE te L) := by
  intro pins s0 σ H0 Q I0 h
  rw [ht]
  refine wpAny_bind (thn (he pins s0 σ H0 _ I0 h) fun u s ⟨v, H, I, r, f, e, q⟩ => ?_)
  subst e
  obtain rfl : u = Value.ref f := r
  obtain ⟨o, fd, e2, d2⟩ := c.fn f [] H Q q
  refine PySem.W.callWith_F0 (fn_at I.hok e2 d2) (wpAny_call (codeAny_mono (c.run f X.A X.stack s H [] [] Q (hr.mono hk) I.env0 .nil q) fun rr s' hq => ?_))
  cases rr with
  | error e => exact False.elim hq
  | ok fl =>
    cases fl with
    | ret u => exact I.after hq
    | next => exact False.elim hq
    | brk => exact False.elim hq
    | cont => exact False.elim hq
theorem st_callE {te : TE} {L : Addr → List V → Hp → VK → Prop} {σ : St} {H : Hp} {Q : VK} (h : te σ H fun v H1 => ∃ f, v = .ref f ∧ L f [] H1 Q) : tCallE te L σ H Q := h
/-! a def with a default -/
structure FunD (K : PySem.W.Frag) (x qual : Str) (st : Stmt) (f : Addr) (fd : FuncData) (d : Value) : Prop where
  ex : ∃ (oc : Value) (od : Option Addr) (kV doc pm : Value) (an : Option Addr) (cdv ct : Value) (osl : Array (Option Value)) (T : Addr) (o2 : Obj) (n2 : Nat),
    fd = PySem.W.fnOf x qual (defArgs st) (defBody st) (defScope st) (.ref T) kV doc pm an cdv ct ∧ K.lookup f = some ⟨oc, od, .func fd, osl⟩ ∧ PySem.W.codeIn K cdv qual = true ∧ K.lookup T = some o2 ∧ o2.data = .seq #[d] n2
  kp : PySem.W.keepIn K (.ref f) = true
section
variable {P : Program} {w : World} {K : PySem.W.Frag} {mg : Str → Option Value} {base : Heap}
theorem FunD.okE {x qual : Str} {st : Stmt} {f : Addr} {fd : FuncData} {d : Value} {N ps : List Str} {k : Nat} {sp : Sp} (F : FunD K x qual st f fd d) (S : FnScope N ps (defScope st)) (len : ∀ vs H Q E, sp vs H Q E → vs.length = ps.length)
    (hbody : ∀ (cdv : Value) (A : Around) (outer : List Env) (s : Shared) (H : Hp) (vs : List V) (Q : VK) (E : XK), Room k (A.deeper (envOfC qual (defScope st) s.heap.objs.size f cdv)) → sp vs H Q E →
      ∃ t, PSs (cxOf (CXE P w) P w K mg base N qual (defScope st) f cdv A outer s H E) (defBody st) t ∧ t { nx := fun _ H' => Q .non H', rt := Q } (start N vs) H) : FnOk P w K mg base (CXE P w) (k + 1) f fd ps sp := by
  obtain ⟨oc, od, kV, doc, pm, an, cdv, ct, osl, T, o2, n2, rfl, lk, hcd, _⟩ := F.ex
  exact fn_of lk hcd S len fun A outer s H vs Q E hr hsp => hbody cdv A outer s H vs Q E hr hsp
theorem FunD.binds {x qual : Str} {st : Stmt} {f : Addr} {fd : FuncData} {d : Value} {ps : List Str} {ds : List Value} (F : FunD K x qual st f fd d)
    (h : ∀ (T : Addr) (kV doc pm : Value) (an : Option Addr) (cdv ct : Value) (us : List Value), (us ++ ds).length = ps.length → ∃ k : Option (Array Value) → Sem (List (Str × Value)), bindArgs (PySem.W.fnOf x qual (defArgs st) (defBody st) (defScope st) (.ref T) kV doc pm an cdv ct) ⟨us, []⟩ = seqItems? (.ref T) >>= k ∧ k (some #[d]) = pure (ps.zip (us ++ ds))) : Binds K fd ps ds := by
  obtain ⟨oc, od, kV, doc, pm, an, cdv, ct, osl, T, o2, n2, rfl, lk, hcd, l2, e2⟩ := F.ex
  intro s us KX hl
  obtain ⟨k, e1, e3⟩ := h T kV doc pm an cdv ct us hl
  exact .of_defaults rfl (KX _ _ l2) e2 e1 e3
theorem fund_mk {x qual : Str} {st : Stmt} {f T : Addr} {oc oc2 d : Value} {od an od2 : Option Addr} {osl sl2 : Array (Option Value)} {kV doc pm cdv ct : Value} {n2 : Nat} (l : K.lookup f = some ⟨oc, od, .func (PySem.W.fnOf x qual (defArgs st) (defBody st) (defScope st) (.ref T) kV doc pm an cdv ct), osl⟩)
    (c : PySem.W.codeIn K cdv qual = true) (k : PySem.W.keepIn K (.ref f) = true) (t : K.lookup T = some ⟨oc2, od2, .seq #[d] n2, sl2⟩) : FunD K x qual st f (PySem.W.fnOf x qual (defArgs st) (defBody st) (defScope st) (.ref T) kV doc pm an cdv ct) d := ⟨⟨oc, od, kV, doc, pm, an, cdv, ct, osl, T, _, n2, rfl, l, c, t, rfl⟩, k⟩
end
/-- a method whose last parameter is None if it is not given -/
structure MCalN (P : Program) (w : World) (K : PySem.W.Frag) (mg : Str → Option Value) (base : Heap) (CX : CXT) (k : Nat) (C : Addr) (m : Str) (ps : List Str) (sp : Sp) : Prop where
  cl : Cls K C
  ex : ∃ f fd, Meth K C m f ∧ FnOk P w K mg base CX k f fd ps sp ∧ Binds K fd ps [.none]
def tMethN {ι : Type} (CD : ι → Addr) (spm : ι → Sp) (m : Str) (E : XK) (ta : TE) (t : TA) : TE := fun σ H Q => ta σ H fun x H1 => ∃ a d dx fs, x = .ref a ∧ H1 a = some (.ins (CD d) dx fs) ∧ fs.lookup m = none ∧ t σ H1 fun vs H2 => spm d (x :: vs ++ [.non]) H2 Q E
section
variable {X : Cx} {CX : CXT} {j k : Nat} {ι : Type} {CD : ι → Addr} {spm : ι → Sp} {ps : List Str} {E : XK} {m : Str} {pos apos : Pos} {e o : Expr} {es : List Expr} {ta : TE} {t : TA}
theorem pe_mdN {pl : Sem Bool} (hM : ∀ d, MCalN X.prog X.w X.K X.mg X.base CX k (CD d) m ps (spm d)) (hr : Room j X.A) (hx : Passes CX X E) (he : PE X o ta) (ha : PA X (e :: es) t) (hk : k ≤ j := by decide)
    (hst : starEach (e :: es) X.env = (false, eval e X.env) :: starEach es X.env := by rfl) (hpl : (backTo pos (starEach es X.env)).any (·.1) = false := by rfl)
    (ht : eval (.Call (.Attribute o m apos) (e :: es) [] pos) X.env = (do
      let ov ← eval o X.env
      standAt apos.atName
      let (f, first) ← holding [ov] (getMethod ov m pl)
      callWith pos f first (backTo pos (starEach (e :: es) X.env)) (backToKw pos (keywordEach [] X.env))) := by rfl) :
    PE X (.Call (.Attribute o m apos) (e :: es) [] pos) (tMethN CD spm m E ta t) := by
  intro pins s σ H Q I h
  refine PySem.W.methodCall_KW (pl := pl) (thn (he pins s σ H _ I h) fun u s1 ⟨x, H1, I1, rx, a, d, dx, fs, ex, ea, l, q⟩ => ?_) ht
  subst ex
  obtain rfl : u = Value.ref a := rx
  have M := hM d
  obtain ⟨f, fd, hm, F, b⟩ := M.ex
  refine getmeth_ok I1 ea M.cl hm l ?_
  refine PySem.W.callWith_K (first := [.ref a]) (h₀ := X.base) I.ok.mod.kin hm.kp (thn (ha pos pins s1 σ H1 _ I1 q) fun us s2 ⟨vs, H2, I2, r, q2⟩ => ⟨I2.kIn, ?_⟩) hst hpl
  exact run_fn (us := .ref a :: us) (vs := .ref a :: vs) (dvs := [.non]) F (hr.mono hk) b (.cons rfl .nil) hx I2 (.cons rfl r) q2
theorem st_mdN {σ : St} {H : Hp} {Q : VK} (h : ta σ H fun x H1 => rMeth CD m x H1 fun d => t σ H1 fun vs H2 => spm d (x :: vs ++ [.non]) H2 Q E) : tMethN CD spm m E ta t σ H Q := h
end
/-- the lambda that a def hands back -/
def lamRet (q : Str) (st : Stmt) : Lam := match (defBody st).getLast? with
  | some (.Return (some (.Lambda ps b sc pos)) _) => ⟨q, ps, b, sc, pos⟩
  | _ => ⟨q, defArgs st, .Name "" ⟨0, 0, 0, 0⟩, defScope st, ⟨0, 0, 0, 0⟩⟩
end L2

set_option Elab.async false
set_option linter.all false
set_option maxRecDepth 100000
set_option maxHeartbeats 30000000
namespace L2
open PySem
theorem boot_all : bootBuiltins "all" = some (.builtin "all") := by decide +kernel
end L2
namespace Tw
open PySem L2
local macro_rules | `(tactic| fail "la") => `(tactic| first | (with_reducible assumption) | exact upd_same | (with_reducible refine' upd_get ?s1 ?s2; (case s1 => with_reducible assumption); (case s2 => fail "la")))
local macro_rules | `(tactic| fail "sq") => `(tactic| first | (with_reducible assumption) | (with_reducible apply SqT.of upd_same) | (with_reducible apply SqL.of upd_same) | (with_reducible apply SqT.of; with_reducible assumption) | (with_reducible apply SqL.of; with_reducible assumption) | (with_reducible apply SqT.upd <;> first | (with_reducible assumption) | fail "sq") | (with_reducible apply SqL.upd <;> first | (with_reducible assumption) | fail "sq") | (with_reducible refine' Same.tup ?s1 ?s2; (case s1 => with_reducible assumption); (case s2 => fail "sq")) | (with_reducible refine' Same.seq ?s1 ?s2; (case s1 => with_reducible assumption); (case s2 => fail "sq")))
local macro_rules | `(tactic| fail "st") => `(tactic| dsimp only [cxOf_K])
local macro_rules | `(tactic| fail "sd") => `(tactic| first | omega | exact pow_pos2 _ | exact pow_le100 (by omega) | exact cdivw_pow (by omega) | exact cpow_n (by omega) | exact ⟨by decide, by decide⟩ | exact .inl ⟨by decide, by decide⟩ | decide)
local macro_rules | `(tactic| fail "tv") => `(tactic| ((with_reducible refine' st_var ?e1 ?h1); (case e1 => exact rfl)))
local macro_rules | `(tactic| fail "tx") => `(tactic| ((with_reducible refine' st_ixT ?s1 ?e1 ?h1); (case s1 => fail "sq"); (case e1 => exact rfl)))
local macro_rules | `(tactic| fail "tl") => `(tactic| ((with_reducible refine' st_ixL ?s1 ?e1 ?h1); (case s1 => fail "sq"); (case e1 => first | assumption | exact rfl)))
local macro_rules | `(tactic| fail "tg") => `(tactic| ((with_reducible refine' st_gtup ?s1 ?e1 ?h1); (case s1 => fail "sq"); (case e1 => exact rfl)))
local macro_rules | `(tactic| fail "ti") => `(tactic| ((with_reducible refine st_i ?c1 ?h1); (case c1 => fail "sd")))
local macro_rules | `(tactic| fail "ts") => `(tactic| ((with_reducible refine st_shl1 ?c1 ?h1); (case c1 => fail "sd")))
local macro_rules | `(tactic| fail "tm") => `(tactic| ((with_reducible refine st_modN ?c1 ?h1); (case c1 => fail "sd"); intro _ _ _))
local macro_rules | `(tactic| fail "td") => `(tactic| ((with_reducible refine st_divN ?c1 ?c2 ?h1); (case c1 => fail "sd"); (case c2 => fail "sd")))
local macro_rules | `(tactic| fail "tz") => `(tactic| ((with_reducible refine st_size ?c1 ?h1); (case c1 => exact rfl)))
local macro_rules | `(tactic| fail "sl") => `(tactic| ((with_reducible refine' st_slL ?s1 ?h1); (case s1 => fail "sq")))
local macro_rules | `(tactic| fail "n2") => `(tactic| ((with_reducible first | refine' rNeD_2 ?s1 ?s2 ?h1 | refine' rEqD_2 ?s1 ?s2 ?h1 | refine' rNeD_3 ?s1 ?s2 ?h1 | refine' rEqD_3 ?s1 ?s2 ?h1); (case s1 => fail "sq"); (case s2 => fail "sq")))
local macro_rules | `(tactic| fail "sm") => `(tactic| first | (with_reducible assumption) | exact Same.refl _ | (with_reducible refine' Same.updR ?s1 ?s2; (case s2 => with_reducible assumption); (case s1 => fail "sm")) | (with_reducible refine' Same.trans ?s1 ?s2; (case s2 => with_reducible assumption); (case s1 => fail "sm")))
local macro_rules | `(tactic| fail "is") => `(tactic| ((with_reducible refine' st_isi ?s1 ?s2 ?h1); (case s1 => first | exact TyOf.bl _ | exact TyOf.int _ | exact TyOf.str _ | exact TyOf.non | exact TyOf.tup upd_same | exact TyOf.lst upd_same | (with_reducible refine' TyOf.tup ?e9; (case e9 => fail "la")) | (with_reducible refine' TyOf.lst ?e9; (case e9 => fail "la")) | exact TyOf.dK upd_same); (case s2 => first | exact kit_NoneType_int | exact kit_NoneType_bool | exact kit_NoneType_str | exact kit_NoneType_tuple | exact kit_NoneType_list | exact kit_NoneType_dict | exact kit_bool_int | exact kit_bool_bool | exact kit_bool_str | exact kit_bool_tuple | exact kit_bool_list | exact kit_bool_dict | exact kit_int_int | exact kit_int_bool | exact kit_int_str | exact kit_int_tuple | exact kit_int_list | exact kit_int_dict | exact kit_str_int | exact kit_str_bool | exact kit_str_str | exact kit_str_tuple | exact kit_str_list | exact kit_str_dict | exact kit_list_int | exact kit_list_bool | exact kit_list_str | exact kit_list_tuple | exact kit_list_list | exact kit_list_dict | exact kit_tuple_int | exact kit_tuple_bool | exact kit_tuple_str | exact kit_tuple_tuple | exact kit_tuple_list | exact kit_tuple_dict | exact kit_dict_int | exact kit_dict_bool | exact kit_dict_str | exact kit_dict_tuple | exact kit_dict_list | exact kit_dict_dict)))
local macro_rules | `(tactic| fail "h0") => `(tactic| first | with_reducible refine st_andS ?_ | with_reducible refine st_andB ?_ | with_reducible refine st_and1 ?_ | with_reducible refine st_chain ?_ | with_reducible refine st_dnew ?_ | with_reducible refine st_yes ?_ | ((with_reducible refine' st_lstT ?s1 ?h1); (case s1 => fail "sq")) | with_reducible refine st_raise ?_ | with_reducible refine st_try ?_ | ((with_reducible refine st_shlB ?c1 ?h1); (case c1 => omega)) | ((with_reducible refine' st_in01 ?s1 ?c1 ?h1); (case s1 => fail "sq"); (case c1 => omega)))
local macro_rules | `(tactic| fail "h1") => `(tactic| with_reducible first | refine st_seq ?_ | refine st_asg ?_ | refine st_gname ?_ | refine st_op ?_ | refine st_c ?_ | refine st_if ?_ | refine st_ret ?_ | refine st_test ?_ | refine st_bl ?_ | refine st_cons ?_ | refine st_nil ?_ | refine st_call ?_ | refine st_tup ?_ | refine st_and ?_ | refine st_or ?_ | refine st_not ?_ | refine st_andN ?_ | refine st_orN ?_ | refine st_xorN ?_ | refine st_bit ?_ | refine st_i0 ?_ | refine st_shrN ?_ | refine st_eqi ?_ | refine st_nei ?_ | refine st_eqb ?_ | refine st_neb ?_ | refine st_eqs ?_ | refine st_nes ?_ | refine st_cb ?_ | refine st_lst ?_ | refine st_next ?_ | refine st_retN ?_ | refine st_drop ?_ | refine st_gcons ?_ | refine st_gnil ?_ | refine st_un ?_ | refine st_u ?_ | refine st_tB ?_ | refine st_andV ?_ | refine st_orV ?_ | refine st_notV ?_ | refine st_ifE ?_ | refine st_part ?_ | refine st_int ?_ | refine st_nopart ?_ | refine st_sl ?_)
local macro_rules | `(tactic| fail "h2") => `(tactic| first | with_reducible refine st_bm0 ?_ | with_reducible refine st_bm ?_ | with_reducible refine st_tyI ?_ | with_reducible refine st_tyS ?_ | with_reducible refine st_bitlen ?_ | ((with_reducible refine' st_tyL ?s1 ?h1); (case s1 => fail "sq")) | ((with_reducible refine' st_lenL ?s1 ?h1); (case s1 => fail "sq")) | ((with_reducible refine' st_lenT ?s1 ?h1); (case s1 => fail "sq")) | ((with_reducible refine' st_cat ?s1 ?s2 ?s3 ?h1); (case s1 => fail "la"); (case s2 => fail "la"); (case s3 => first | omega | (simp only [List.length_append, List.length_map, List.length_cons, List.length_nil]; omega))) | ((with_reducible refine' st_append ?s1 ?s2 ?h1); (case s1 => fail "la"); (case s2 => first | omega | (simp only [List.length_append, List.length_map, List.length_cons, List.length_nil]; omega))))
local macro_rules | `(tactic| fail "go") => `(tactic| repeat (first | fail "tv" | fail "h0" | fail "h1" | fail "tx" | fail "tl" | fail "ts" | fail "tm" | fail "td" | fail "ti" | fail "tz" | fail "tg" | fail "sl" | fail "n2" | fail "is" | fail "h2" | with_reducible refine iteT ?_ | with_reducible refine iteF ?_ | with_reducible refine iteNT ?_ | with_reducible refine iteNF ?_ | with_reducible refine (fun (p : Addr) (hp : _ = none) => ?_ : ∀ p : Addr, _ = none → _) | dsimp only [Bool.not_true, Bool.not_false]))
local macro_rules | `(tactic| fail "h2") => `(tactic| with_reducible first | refine st_fld ?_ | refine st_put ?_ | refine st_make ?_ | refine st_md ?_ | refine st_intB ?_)
local macro_rules | `(tactic| fail "tx") => `(tactic| ((with_reducible refine' st_ixT ?s1 ?e1 ?h1); (case s1 => fail "sq"); (case e1 => first | exact at0 _ _ | exact at1 _ _ _)))
local macro_rules | `(tactic| fail "h0") => `(tactic| with_reducible first | refine st_xorBB ?_ | refine st_xorNB ?_ | refine st_sub1B ?_)
local macro_rules | `(tactic| fail "kw1") => `(tactic| first | ((with_reducible refine' ite_t ?e9 ?h9); (case e9 => decide +kernel)) | ((with_reducible refine' ite_f ?e9 ?h9); (case e9 => decide +kernel)))
local macro_rules | `(tactic| fail "kw") => `(tactic| (fail "go"; repeat (fail "kw1"; fail "go")))
theorem hu_of64 {A : Around} {k : Nat} (hr : Room k A) : A.units + 64 < cLine := hr.units
inductive SK where
  | span
inductive RK where
  | draws
inductive MK where
  | sg
def top (i : Nat) : Stmt := PySem.Challenge.pw_twinwires_k38_drawers.main.body.getD i (.Pass ⟨0, 0, 0, 0⟩)
abbrev s__law_cell_at : Stmt := top 41
theorem sc__law_cell_at : FnScope ["_law_script", "_law_k"] ["_law_script", "_law_k"] (defScope s__law_cell_at) := ⟨rfl, rfl, rfl, by decide +kernel, rfl, by decide +kernel, by decide +kernel⟩
abbrev s__law_mixed : Stmt := top 42
theorem sc__law_mixed : FnScope ["_law_draw", "_law_k", "_law_number"] ["_law_draw", "_law_k"] (defScope s__law_mixed) := ⟨rfl, rfl, rfl, by decide +kernel, rfl, by decide +kernel, by decide +kernel⟩
abbrev s_Draws___init__ : Stmt := inClass (top 31) 0
theorem sc_Draws___init__ : FnScope ["self", "numbers"] ["self", "numbers"] (defScope s_Draws___init__) := ⟨rfl, rfl, rfl, by decide +kernel, rfl, by decide +kernel, by decide +kernel⟩
abbrev s_drawer_of : Stmt := top 32
theorem sc_drawer_of : FnScope ["numbers", "draws"] ["numbers"] (defScope s_drawer_of) := ⟨rfl, rfl, rfl, by decide +kernel, rfl, by decide +kernel, by decide +kernel⟩
abbrev s_is_whole_number : Stmt := top 3
theorem sc_is_whole_number : FnScope ["thing"] ["thing"] (defScope s_is_whole_number) := ⟨rfl, rfl, rfl, by decide +kernel, rfl, by decide +kernel, by decide +kernel⟩
abbrev s_Machine___init__ : Stmt := inClass (top 27) 0
theorem sc_Machine___init__ : FnScope ["self", "n", "most"] ["self", "n", "most"] (defScope s_Machine___init__) := ⟨rfl, rfl, rfl, by decide +kernel, rfl, by decide +kernel, by decide +kernel⟩
abbrev s_Signs___init__ : Stmt := inClass (top 39) 0
theorem sc_Signs___init__ : FnScope ["self", "n"] ["self", "n"] (defScope s_Signs___init__) := ⟨rfl, rfl, rfl, by decide +kernel, rfl, by decide +kernel, by decide +kernel⟩
abbrev s_Span_left_of : Stmt := inClass (top 34) 2
theorem sc_Span_left_of : FnScope ["self", "number", "which", "left", "lead", "total", "parts"] ["self", "number", "which"] (defScope s_Span_left_of) := ⟨rfl, rfl, rfl, by decide +kernel, rfl, by decide +kernel, by decide +kernel⟩
abbrev s_Span_parts_of : Stmt := inClass (top 34) 3
theorem sc_Span_parts_of : FnScope ["self", "number", "left"] ["self", "number"] (defScope s_Span_parts_of) := ⟨rfl, rfl, rfl, by decide +kernel, rfl, by decide +kernel, by decide +kernel⟩
abbrev s_lowest_bit : Stmt := top 7
theorem sc_lowest_bit : FnScope ["number"] ["number"] (defScope s_lowest_bit) := ⟨rfl, rfl, rfl, by decide +kernel, rfl, by decide +kernel, by decide +kernel⟩
abbrev s_Span_take : Stmt := inClass (top 34) 1
theorem sc_Span_take : FnScope ["self", "number", "left"] ["self", "number"] (defScope s_Span_take) := ⟨rfl, rfl, rfl, by decide +kernel, rfl, by decide +kernel, by decide +kernel⟩
abbrev s_Span___init__ : Stmt := inClass (top 34) 0
theorem sc_Span___init__ : FnScope ["self", "numbers", "number"] ["self", "numbers"] (defScope s_Span___init__) := ⟨rfl, rfl, rfl, by decide +kernel, rfl, by decide +kernel, by decide +kernel⟩
abbrev s_widest : Stmt := top 37
theorem sc_widest : FnScope ["rows"] ["rows"] (defScope s_widest) := ⟨rfl, rfl, rfl, by decide +kernel, rfl, by decide +kernel, by decide +kernel⟩
abbrev s_bit_at : Stmt := top 6
theorem sc_bit_at : FnScope ["number", "k"] ["number", "k"] (defScope s_bit_at) := ⟨rfl, rfl, rfl, by decide +kernel, rfl, by decide +kernel, by decide +kernel⟩
abbrev s_places : Stmt := top 5
theorem sc_places : FnScope ["number"] ["number"] (defScope s_places) := ⟨rfl, rfl, rfl, by decide +kernel, rfl, by decide +kernel, by decide +kernel⟩
abbrev s_ones : Stmt := top 4
theorem sc_ones : FnScope ["number", "found", "rest"] ["number"] (defScope s_ones) := ⟨rfl, rfl, rfl, by decide +kernel, rfl, by decide +kernel, by decide +kernel⟩
abbrev s_goes_beside : Stmt := top 21
theorem sc_goes_beside : FnScope ["one", "other", "crossings"] ["one", "other"] (defScope s_goes_beside) := ⟨rfl, rfl, rfl, by decide +kernel, rfl, by decide +kernel, by decide +kernel⟩
abbrev s_letters_y : Stmt := top 23
theorem sc_letters_y : FnScope ["row"] ["row"] (defScope s_letters_y) := ⟨rfl, rfl, rfl, by decide +kernel, rfl, by decide +kernel, by decide +kernel⟩
abbrev s_times : Stmt := top 22
theorem sc_times : FnScope ["one", "other", "xs", "zs", "minuses", "quarters"] ["one", "other"] (defScope s_times) := ⟨rfl, rfl, rfl, by decide +kernel, rfl, by decide +kernel, by decide +kernel⟩
abbrev s_product_of : Stmt := top 24
theorem sc_product_of : FnScope ["rows", "product", "row"] ["rows"] (defScope s_product_of) := ⟨rfl, rfl, rfl, by decide +kernel, rfl, by decide +kernel, by decide +kernel⟩
abbrev s_signs_number : Stmt := top 25
theorem sc_signs_number : FnScope ["row", "n"] ["row", "n"] (defScope s_signs_number) := ⟨rfl, rfl, rfl, by decide +kernel, rfl, by decide +kernel, by decide +kernel⟩
abbrev s_made_of : Stmt := top 36
theorem sc_made_of : FnScope ["rows", "row", "width", "parts", "numbers", "product"] ["rows", "row"] (defScope s_made_of) := ⟨rfl, rfl, rfl, by decide +kernel, rfl, by decide +kernel, by decide +kernel⟩
abbrev s_Signs_sure_value : Stmt := inClass (top 39) 3
theorem sc_Signs_sure_value : FnScope ["self", "row", "found"] ["self", "row"] (defScope s_Signs_sure_value) := ⟨rfl, rfl, rfl, by decide +kernel, rfl, by decide +kernel, by decide +kernel⟩
abbrev s_Signs_settle : Stmt := inClass (top 39) 4
theorem sc_Signs_settle : FnScope ["self", "row", "value", "staying", "crossing", "mended"] ["self", "row", "value"] (defScope s_Signs_settle) := ⟨rfl, rfl, rfl, by decide +kernel, rfl, by decide +kernel, by decide +kernel⟩
abbrev s_fits : Stmt := top 19
theorem sc_fits : FnScope ["number", "n"] ["number", "n"] (defScope s_fits) := ⟨rfl, rfl, rfl, by decide +kernel, rfl, by decide +kernel, by decide +kernel⟩
abbrev s_checked_row : Stmt := top 18
theorem sc_checked_row : FnScope ["thing", "n"] ["thing", "n"] (defScope s_checked_row) := ⟨rfl, rfl, rfl, by decide +kernel, rfl, by decide +kernel, by decide +kernel⟩
abbrev s_weight_of : Stmt := top 20
theorem sc_weight_of : FnScope ["row"] ["row"] (defScope s_weight_of) := ⟨rfl, rfl, rfl, by decide +kernel, rfl, by decide +kernel, by decide +kernel⟩
abbrev s_check_look : Stmt := top 28
theorem sc_check_look : FnScope ["row", "n"] ["row", "n"] (defScope s_check_look) := ⟨rfl, rfl, rfl, by decide +kernel, rfl, by decide +kernel, by decide +kernel⟩
abbrev s_Draws_draw : Stmt := inClass (top 31) 1
theorem sc_Draws_draw : FnScope ["self"] ["self"] (defScope s_Draws_draw) := ⟨rfl, rfl, rfl, by decide +kernel, rfl, by decide +kernel, by decide +kernel⟩
abbrev s_value_drawn : Stmt := top 29
theorem sc_value_drawn : FnScope ["draw"] ["draw"] (defScope s_value_drawn) := ⟨rfl, rfl, rfl, by decide +kernel, rfl, by decide +kernel, by decide +kernel⟩
abbrev s_Machine_look : Stmt := inClass (top 27) 3
theorem sc_Machine_look : FnScope ["self", "row", "draw", "sure", "drawn"] ["self", "row", "draw"] (defScope s_Machine_look) := ⟨rfl, rfl, rfl, by decide +kernel, rfl, by decide +kernel, by decide +kernel⟩
abbrev s__law_bit : Stmt := top 43
theorem sc__law_bit : FnScope ["_law_numbers", "_law_at"] ["_law_numbers", "_law_at"] (defScope s__law_bit) := ⟨rfl, rfl, rfl, by decide +kernel, rfl, by decide +kernel, by decide +kernel⟩
abbrev s__law_right : Stmt := top 44
theorem sc__law_right : FnScope ["_law_found", "_law_due"] ["_law_found", "_law_due"] (defScope s__law_right) := ⟨rfl, rfl, rfl, by decide +kernel, rfl, by decide +kernel, by decide +kernel⟩
abbrev s__law_used_up : Stmt := top 45
theorem sc__law_used_up : FnScope ["_law_numbers", "_law_machine", "_law_draw", "_law_told", "_law_k", "_law_due", "_law_plain"] ["_law_numbers"] (defScope s__law_used_up) := ⟨rfl, rfl, rfl, by decide +kernel, rfl, by decide +kernel, by decide +kernel⟩
abbrev s_law : Stmt := top 46
theorem sc_law : FnScope ["_law_script", "_law_cut", "_law_numbers", "_law_other", "_law_handed", "_law_drawers", "_law_at", "_law_draw", "_law_k"] ["_law_script"] (defScope s_law) := ⟨rfl, rfl, rfl, by decide +kernel, rfl, by decide +kernel, by decide +kernel⟩
structure Txt_S (K : PySem.W.Frag) (CD_S : SK → Addr) : Prop where
  cl : ∀ d, Cls K (CD_S d)
  n_sums : ∀ d, NoAttr K (CD_S d) "sums"
  n_taken : ∀ d, NoAttr K (CD_S d) "taken"
def CDof_S (C_Span : Addr) : SK → Addr
  | .span => C_Span
structure Txt_R (K : PySem.W.Frag) (CD_R : RK → Addr) : Prop where
  cl : ∀ d, Cls K (CD_R d)
  n_bits : ∀ d, NoAttr K (CD_R d) "bits"
  n_told : ∀ d, NoAttr K (CD_R d) "told"
def CDof_R (C_Draws : Addr) : RK → Addr
  | .draws => C_Draws
structure Txt_M (K : PySem.W.Frag) (CD_M : MK → Addr) : Prop where
  cl : ∀ d, Cls K (CD_M d)
  n_kept : ∀ d, NoAttr K (CD_M d) "kept"
  n_n : ∀ d, NoAttr K (CD_M d) "n"
def CDof_M (C_Signs : Addr) : MK → Addr
  | .sg => C_Signs
def sp__law_cell_at (K : PySem.W.Frag) : Sp := fun vs H Q _ => ∃ (a : Addr) (k : Nat) (ns : List Int), vs = [.ref a, .int k] ∧ SqL K H a (ns.map V.int) ∧ ∀ c : Int, Q (.int c) H
def Sm3 (H : Hp) (a : Addr) (s : Sm) : Prop := H a = some (.tup [.int ((2 ^ s.j : Nat) : Int), .int (s.t : Int), .int (s.p : Int)])
def sflds (l : Addr) (t : Int) : List (Str × V) := [("sums", .ref l), ("taken", .int t)]
/-- a span: what it has taken, the sums it keeps -/
def SnAt (CD : SK → Addr) (H : Hp) (p l : Addr) (vs : List Nat) (ss : List Sm) : Prop := ∃ dx as, H p = some (.ins (CD .span) dx (sflds l (vs.length : Nat))) ∧ H l = some (.lst (refs as)) ∧ All2 (Sm3 H) as ss ∧ SpOk vs ss ∧ ss.length ≤ vs.length
def Oth (p l : Addr) (H H' : Hp) : Prop := ∀ c o, c ≠ p → c ≠ l → H c = some o → H' c = some o
def sp_Span_left_of (K : PySem.W.Frag) (CD : SK → Addr) : Sp := fun vs H Q _ => ∃ (p l : Addr) (x w : Nat) (us : List Nat) (ss : List Sm), vs = [.ref p, .int x, .int w] ∧ SnAt CD H p l us ss ∧ us.length ≤ 100 ∧ ∀ q H', Same H H' → H' q = some (.tup [.int ((red ss x w).1 : Int), .int ((red ss x w).2 : Int)]) → Q (.ref q) H'
abbrev sp_S_left_of (K : PySem.W.Frag) (CD : SK → Addr) (_ : SK) : Sp := sp_Span_left_of K CD
def sp_Span_take (K : PySem.W.Frag) (CD : SK → Addr) : Sp := fun vs H Q _ => ∃ (p l : Addr) (x : Nat) (us : List Nat) (ss : List Sm), vs = [.ref p, .int x] ∧ SnAt CD H p l us ss ∧ us.length ≤ 100 ∧ ∀ H' ss', Oth p l H H' → SnAt CD H' p l (us ++ [x]) ss' → Q .non H'
abbrev sp_S_take (K : PySem.W.Frag) (CD : SK → Addr) (_ : SK) : Sp := sp_Span_take K CD
def sp_Span___init__ (K : PySem.W.Frag) (CD : SK → Addr) : Sp := fun vs H Q _ => ∃ (p n dx : Addr) (us : List Nat), vs = [.ref p, .ref n] ∧ H p = some (.ins (CD .span) dx []) ∧ H n = some (.lst (vn us)) ∧ us.length ≤ 100 ∧ ∀ H' l ss, (∀ c o, c ≠ p → H c = some o → H' c = some o) → H l = none → SnAt CD H' p l us ss → Q .non H'
def sp_Span_parts_of (K : PySem.W.Frag) (CD : SK → Addr) : Sp := fun vs H Q _ => ∃ (p l : Addr) (x : Nat) (us : List Nat) (ss : List Sm), vs = [.ref p, .int x] ∧ SnAt CD H p l us ss ∧ us.length ≤ 100 ∧ ∀ H', Same H H' → ((red ss x 0).1 = 0 → Q (.int ((red ss x 0).2 : Int)) H') ∧ ((red ss x 0).1 ≠ 0 → Q .non H')
abbrev sp_S_parts_of (K : PySem.W.Frag) (CD : SK → Addr) (_ : SK) : Sp := sp_Span_parts_of K CD
def sp_ones (K : PySem.W.Frag) : Sp := fun vs H Q _ => ∃ n : Nat, vs = [.int n] ∧ Q (.int (pop n : Nat)) H
def pls (n : Nat) : List Nat := plc n (Builtin.Int.intBits (n : Int))
def sp_places (K : PySem.W.Frag) : Sp := fun vs H Q _ => ∃ n : Nat, vs = [.int n] ∧ n < 2 ^ 100 ∧ ∀ p, H p = none → Q (.ref p) (upd H p (.lst (vn (pls n))))
def sp_lowest_bit (K : PySem.W.Frag) : Sp := fun vs H Q _ => ∃ v : Nat, vs = [.int v] ∧ 0 < v ∧ ∀ j : Nat, v.testBit j = true → Q (.int ((2 ^ j : Nat) : Int)) H
def crs (r q : Row) : Nat := (r.x &&& q.z) ^^^ (r.z &&& q.x)
def sp_goes_beside (K : PySem.W.Frag) : Sp := fun vs H Q _ => ∃ (a b : Addr) (r q : Row), vs = [.ref a, .ref b] ∧ SqT K H a r.V ∧ SqT K H b q.V ∧ Q (.bl (decide (pop (crs r q) % 2 = 0))) H
def sp_letters_y (K : PySem.W.Frag) : Sp := fun vs H Q _ => ∃ (a : Addr) (r : Row), vs = [.ref a] ∧ SqT K H a r.V ∧ Q (.int (pop (r.x &&& r.z) : Nat)) H
def sp_times (K : PySem.W.Frag) (C : Addr) : Sp := fun vs H Q E => ∃ (a b : Addr) (r q : Row), vs = [.ref a, .ref b] ∧ SqT K H a r.V ∧ SqT K H b q.V ∧ (symp r q = false → ∀ p, H p = none → Q (.ref p) (upd H p (.tup (tm r q).V))) ∧ (¬ pop (crs r q) % 2 = 0 → E (.ref C) none H)
def sp_product_of (K : PySem.W.Frag) : Sp := fun vs H Q _ => ∃ (l : Addr) (as : List Addr) (us : List Row), vs = [.ref l] ∧ H l = some (.lst (refs as)) ∧ All2 (Rt K H) as us ∧ as.length ≤ 200 ∧ (∀ i r, us[i]? = some r → symp (pr (us.take i)) r = false) ∧ ∀ p H', Same H H' → H' p = some (.tup (pr us).V) → Q (.ref p) H'
def sp_signs_number (K : PySem.W.Frag) : Sp := fun vs H Q _ => ∃ (a : Addr) (n : Nat) (r : Row), vs = [.ref a, .int n] ∧ SqT K H a r.V ∧ r.x < 2 ^ n ∧ r.z < 2 ^ 40 ∧ n ≤ 40 ∧ Q (.int ((r.x ^^^ r.z * 2 ^ n : Nat) : Int)) H
def sp_widest (K : PySem.W.Frag) : Sp := fun vs H Q _ => ∃ (l : Addr) (as : List Addr) (rs : List Row), vs = [.ref l] ∧ H l = some (.lst (refs as)) ∧ All2 (Rt K H) as rs ∧ as.length ≤ 100 ∧ 0 < as.length ∧ (∀ r ∈ rs, r.Ok 40) ∧ ∀ (w : Nat) H', Same H H' → w ≤ 40 → (∀ r ∈ rs, r.x < 2 ^ w ∧ r.z < 2 ^ w) → Q (.int (w : Int)) H'
def sp_made_of (K : PySem.W.Frag) : Sp := fun vs H Q _ => ∃ (l a : Addr) (as : List Addr) (rs : List Row) (o : Row), vs = [.ref l, .ref a] ∧ H l = some (.lst (refs as)) ∧ All2 (Rt K H) as rs ∧ as.length ≤ 40 ∧ H a = some (.tup o.V) ∧ (∀ r ∈ rs, r.Ok 40) ∧ o.Ok 40 ∧ (∀ r ∈ rs, ∀ s ∈ rs, symp r s = false) ∧
  ∀ H', Same H H' → ((∀ m, ¬ Lsel rs m o) → Q .non H') ∧ ∀ m p q, m < 2 ^ rs.length → Lsel rs m o → H' q = some (.lst (vn (plc m rs.length))) → H' p = some (.tup [.ref q, .int (((pr (pk rs (plc m rs.length))).m ^^^ o.m : Nat) : Int)]) → Q (.ref p) H'
def k8 : Nat → DK
  | 0 => .over | 1 => .quarter | 2 => .back | 3 => .both | 4 => .both | 5 => .wher | 6 => .wher | _ => .swap
theorem refs_at {as : List Addr} {i : Nat} {a : Addr} (h : as[i]? = some a) : (refs as)[i]? = some (.ref a) := by unfold refs; rw [List.getElem?_map, h]; rfl
theorem vn_at {l : List Nat} {i : Nat} {x : V} (h : (vn l)[i]? = some x) : ∃ k : Nat, x = .int k ∧ l[i]? = some k := by
  unfold vn at h
  rw [List.getElem?_map] at h
  cases e : l[i]? with
  | none => rw [e] at h; cases h
  | some k => rw [e] at h; exact ⟨k, (Option.some.inj h).symm, rfl⟩
theorem vn_app (a b : List Nat) : vn a ++ vn b = vn (a ++ b) := by unfold vn; rw [List.map_append]
theorem st_lput {td ty tv : TE} {D : Ends} {σ : St} {H : Hp} (h : tv σ H fun v H1 => td σ H1 fun x H2 => ty σ H2 fun y H3 => ∃ a xs, ∃ k : Nat, x = .ref a ∧ y = .int (k : Int) ∧ H3 a = some (.lst xs) ∧ k < xs.length ∧ D.nx σ (upd H3 a (.lst (xs.set k v)))) : sLPut td ty tv D σ H := h
theorem red_snoc : ∀ (a : List Sm) (s : Sm) (l w : Nat), red (a ++ [s]) l w = if (red a l w).1.testBit s.j = true then ((red a l w).1 ^^^ s.t, (red a l w).2 ^^^ s.p) else red a l w
  | [], s, l, w => by
    show (if l.testBit s.j = true then (l ^^^ s.t, w ^^^ s.p) else (l, w)) = _
    rfl
  | u :: a, s, l, w => by
    rw [List.cons_append]
    unfold red
    split
    · exact red_snoc a s _ _
    · exact red_snoc a s _ _
theorem red_at {ss : List Sm} {i : Nat} {s : Sm} (x w : Nat) (h : ss[i]? = some s) : red (ss.take (i + 1)) x w = if (red (ss.take i) x w).1.testBit s.j = true then ((red (ss.take i) x w).1 ^^^ s.t, (red (ss.take i) x w).2 ^^^ s.p) else red (ss.take i) x w := by
  rw [take_succ_of h, red_snoc]
theorem and_pow_ne (l j : Nat) : (((l &&& 2 ^ j : Nat) : Int) = 0) = (l.testBit j = false) := by
  rw [and_pow]
  cases l.testBit j
  · simp
  · have h := Nat.two_pow_pos j
    apply propext
    constructor
    · intro z
      rw [Bool.toNat_true, Nat.one_mul] at z
      omega
    · intro z
      cases z
theorem sums_look (l : Addr) (t : Int) : (sflds l t).lookup ("sums" : Str) = some (.ref l) := rfl
theorem taken_look (l : Addr) (t : Int) : (sflds l t).lookup ("taken" : Str) = some (.int t) := by
  have h1 : (("taken" : Str) == "sums") = false := by decide +kernel
  unfold sflds
  rw [List.lookup_cons, h1]
  rfl
theorem no_look (l : Addr) (t : Int) {m : Str} (h1 : (m == "sums") = false) (h2 : (m == "taken") = false) : (sflds l t).lookup m = none := by
  unfold sflds
  rw [List.lookup_cons, h1, List.lookup_cons, h2]
  rfl
theorem taken_put (l : Addr) (t u : Int) : putF "taken" (.int u) (sflds l t) = sflds l u := by
  have h1 : ¬ (("sums" : Str) = "taken") := by decide +kernel
  simp only [sflds, putF, if_neg h1]
  rfl
theorem first_put (l : Addr) (t : Int) : putF "taken" (.int t) (putF "sums" (.ref l) []) = sflds l t := by
  have h1 : ¬ (("sums" : Str) = "taken") := by decide +kernel
  simp only [sflds, putF, if_neg h1]
theorem or_sn {x z n : Nat} (h : x < 2 ^ n) : x ||| z * 2 ^ n = x ^^^ z * 2 ^ n := by
  have h3 : x &&& z * 2 ^ n = 0 := by
    apply Nat.eq_of_testBit_eq
    intro i
    rw [Nat.testBit_and, ← Nat.shiftLeft_eq, Nat.testBit_shiftLeft, Nat.zero_testBit]
    rcases Nat.lt_or_ge i n with hi | hi
    · simp [Nat.not_le.2 hi]
    · rw [Nat.testBit_lt_two_pow (Nat.lt_of_lt_of_le h (Nat.pow_le_pow_right (by decide) hi))]
      rfl
  have := xor_add_and x (z * 2 ^ n)
  omega
abbrev lam_drawer_of : Lam := lamRet (("drawer_of" : Str) ++ ".<locals>." ++ "<lambda>") s_drawer_of
def Tabs (T : Addr) (H : Hp) : Prop := TabAt H T lam_drawer_of ∧ [T].Nodup
/-- a box of bits, k of them told -/
def Dw (CR : RK → Addr) (H : Hp) (d : Addr) (bs : List Nat) (k : Nat) : Prop := ∃ dx lb, H d = some (.ins (CR .draws) dx [("bits", .ref lb), ("told", .int (k : Int))]) ∧ H lb = some (.lst (vn bs)) ∧ k ≤ bs.length ∧ bs.length ≤ 100 ∧ ∀ b ∈ bs, b ≤ 1
def Dl (CR : RK → Addr) (H : Hp) (d lb : Addr) (bs : List Nat) (k : Nat) : Prop := ∃ dx, H d = some (.ins (CR .draws) dx [("bits", .ref lb), ("told", .int (k : Int))]) ∧ H lb = some (.lst (vn bs)) ∧ k ≤ bs.length ∧ bs.length ≤ 100 ∧ ∀ b ∈ bs, b ≤ 1
/-- a drawer: the lambda at f draws from the box at d -/
def Dr (H : Hp) (f d : Addr) : Prop := ∃ c o, LamAt H f lam_drawer_of [("draws", c)] ∧ H c = some (exO c o) ∧ o.data = .cell (some (.ref d))
def nxt (bs : List Nat) (k : Nat) : Nat := if k = bs.length then k else k + 1
/-- what a drawer promises -/
def LD (CR : RK → Addr) (f : Addr) (vs : List V) (H : Hp) (Q : VK) : Prop := ∃ (d lb : Addr) (bs : List Nat) (k : Nat), vs = [] ∧ Dr H f d ∧ Dl CR H d lb bs k ∧ ∀ H', But d H H' → Dl CR H' d lb bs (nxt bs k) → Q (.int ((bs.getD k 0 : Nat) : Int)) H'
/-- a machine of signs -/
def Sg (K : PySem.W.Frag) (CM : MK → Addr) (H : Hp) (x : Addr) (n : Nat) (rs : List Row) : Prop := ∃ dx l as, H x = some (.ins (CM .sg) dx [("n", .int (n : Int)), ("kept", .ref l)]) ∧ H l = some (.lst (refs as)) ∧ All2 (Rt K H) as rs
/-- rows that a machine may keep -/
structure Kp (rs : List Row) : Prop where
  len : rs.length ≤ 40
  ok : ∀ r ∈ rs, r.Ok 40
  sy : ∀ r ∈ rs, ∀ s ∈ rs, symp r s = false
structure Lk (n : Nat) (o : Row) : Prop where
  ok : o.Ok n
  n : n ≤ 40
  m : o.m = 0
  ne : o.x ≠ 0 ∨ o.z ≠ 0
def sp_weight_of (K : PySem.W.Frag) : Sp := fun vs H Q _ => ∃ (a : Addr) (r : Row), vs = [.ref a] ∧ SqT K H a r.V ∧ Q (.int (pop (r.x ||| r.z) : Nat)) H
def sp_fits (K : PySem.W.Frag) : Sp := fun vs H Q _ => ∃ (x : Int) (n : Nat), vs = [.int x, .int n] ∧ n ≤ 1000 ∧ Q (.bl (decide (0 ≤ x ∧ x < ((2 ^ n : Nat) : Int)))) H
def sp_checked_row (K : PySem.W.Frag) : Sp := fun vs H Q _ => ∃ (a : Addr) (n : Nat) (r : Row), vs = [.ref a, .int n] ∧ H a = some (.tup r.V) ∧ r.Ok n ∧ n ≤ 40 ∧ ∀ H', Same H H' → Q (.ref a) H'
def sp_check_look (K : PySem.W.Frag) : Sp := fun vs H Q _ => ∃ (a : Addr) (n : Nat) (o : Row), vs = [.ref a, .int n] ∧ H a = some (.tup o.V) ∧ Lk n o ∧ ∀ H', Same H H' → Q .non H'
def sp_value_drawn (K : PySem.W.Frag) (CR : RK → Addr) : Sp := fun vs H Q _ => ∃ v, vs = [v] ∧ ((v = .non ∧ Q (.int ((0 : Nat) : Int)) H) ∨ ∃ (f d lb : Addr) (bs : List Nat) (k : Nat), v = .ref f ∧ Dr H f d ∧ Dl CR H d lb bs k ∧ ∀ H', But d H H' → Dl CR H' d lb bs (nxt bs k) → Q (.int ((bs.getD k 0 : Nat) : Int)) H')
def sp_Draws___init__ (K : PySem.W.Frag) (CR : RK → Addr) : Sp := fun vs H Q _ => ∃ (p l dx : Addr) (ns : List Int), vs = [.ref p, .ref l] ∧ H p = some (.ins (CR .draws) dx []) ∧ SqL K H l (ns.map V.int) ∧ ns.length ≤ 100 ∧ ∀ H' lb, But p H H' → H lb = none → Dl CR H' p lb (ns.map fun i => (i % 2).toNat) 0 → Q .non H'
def sp_Draws_draw (K : PySem.W.Frag) (CR : RK → Addr) : Sp := fun vs H Q _ => ∃ (d lb : Addr) (bs : List Nat) (k : Nat), vs = [.ref d] ∧ Dl CR H d lb bs k ∧ ∀ H', But d H H' → Dl CR H' d lb bs (nxt bs k) → Q (.int ((bs.getD k 0 : Nat) : Int)) H'
abbrev sp_R_draw (K : PySem.W.Frag) (CR : RK → Addr) (_ : RK) : Sp := sp_Draws_draw K CR
def sp_drawer_of (K : PySem.W.Frag) (CR : RK → Addr) (T : Addr) : Sp := fun vs H Q _ => ∃ (l : Addr) (ns : List Int), vs = [.ref l] ∧ SqL K H l (ns.map V.int) ∧ ns.length ≤ 100 ∧ Tabs T H ∧ ∀ f d lb H', SameT H H' → Tabs T H' → H f = none → H d = none → H lb = none → Dr H' f d → Dl CR H' d lb (ns.map fun i => (i % 2).toNat) 0 → Q (.ref f) H'
def sp_Machine___init__ (K : PySem.W.Frag) (CM : MK → Addr) : Sp := fun vs H Q _ => ∃ (p : Addr) (n m : Nat), vs = [.ref p, .int n, .int m] ∧ 1 ≤ n ∧ n ≤ m ∧ ∃ dx, H p = some (.ins (CM .sg) dx []) ∧ Q .non (upd H p (.ins (CM .sg) dx [("n", .int n)]))
def zs (n : Nat) : List Row := (List.range n).map fun k => ⟨0, 0, 2 ^ k⟩
def sp_Signs___init__ (K : PySem.W.Frag) (CM : MK → Addr) : Sp := fun vs H Q _ => ∃ (p : Addr) (n : Nat), vs = [.ref p, .int n] ∧ 1 ≤ n ∧ n ≤ 6 ∧ ∃ dx, H p = some (.ins (CM .sg) dx []) ∧ ∀ H', But p H H' → Sg K CM H' p n (zs n) → Q .non H'
/-- the value of o told by the rows that m picks -/
def vl (rs : List Row) (m : Nat) (o : Row) : Nat := (pr (pk rs (plc m rs.length))).m ^^^ o.m
def sp_Signs_sure_value (K : PySem.W.Frag) (CM : MK → Addr) : Sp := fun vs H Q _ => ∃ (x a : Addr) (n : Nat) (rs : List Row) (o : Row), vs = [.ref x, .ref a] ∧ Sg K CM H x n rs ∧ Kp rs ∧ H a = some (.tup o.V) ∧ o.Ok 40 ∧ ∀ H', Same H H' → ((∀ m, ¬ Lsel rs m o) → Q .non H') ∧ ∀ m, m < 2 ^ rs.length → Lsel rs m o → Q (.int ((vl rs m o : Nat) : Int)) H'
abbrev sp_M_sure_value (K : PySem.W.Frag) (CM : MK → Addr) (_ : MK) : Sp := sp_Signs_sure_value K CM
/-- the rows behind a look whose value is drawn -/
def stl (rs : List Row) (o : Row) (v : Nat) : List Row := (rs.filter fun r => !symp r o) ++ [⟨v, o.x, o.z⟩]
def sp_Signs_settle (K : PySem.W.Frag) (CM : MK → Addr) : Sp := fun vs H Q _ => ∃ (x a : Addr) (v n : Nat) (rs : List Row) (o : Row), vs = [.ref x, .ref a, .int v] ∧ Sg K CM H x n rs ∧ Kp rs ∧ H a = some (.tup o.V) ∧ (rs.filter fun r => symp r o).length ≤ 1 ∧ ∀ H', But x H H' → Sg K CM H' x n (stl rs o v) → Q .non H'
abbrev sp_M_settle (K : PySem.W.Frag) (CM : MK → Addr) (_ : MK) : Sp := sp_Signs_settle K CM
def But2 (x d : Addr) (H H' : Hp) : Prop := ∀ c o, c ≠ x → c ≠ d → H c = some o → H' c = some o
def sp_Machine_look (K : PySem.W.Frag) (CM : MK → Addr) (CR : RK → Addr) : Sp := fun vs H Q _ => ∃ (x a : Addr) (dv : V) (n : Nat) (rs : List Row) (o : Row), vs = [.ref x, .ref a, dv] ∧ Sg K CM H x n rs ∧ Kp rs ∧ H a = some (.tup o.V) ∧ Lk n o ∧
  (((∃ m, m < 2 ^ rs.length ∧ Lsel rs m o) ∧ ∀ m, m < 2 ^ rs.length → Lsel rs m o → ∀ p H', Same H H' → H' p = some (.tup [.int ((vl rs m o : Nat) : Int), .bl true]) → Q (.ref p) H') ∨
   ((∀ m, ¬ Lsel rs m o) ∧ (rs.filter fun r => symp r o).length ≤ 1 ∧
    ((dv = .non ∧ ∀ p H', But x H H' → Sg K CM H' x n (stl rs o 0) → H' p = some (.tup [.int ((0 : Nat) : Int), .bl false]) → Q (.ref p) H') ∨
     ∃ (f d lb : Addr) (bs : List Nat) (k : Nat), dv = .ref f ∧ Dr H f d ∧ Dl CR H d lb bs k ∧ ∀ p H', But2 x d H H' → Sg K CM H' x n (stl rs o (bs.getD k 0)) → Dl CR H' d lb bs (nxt bs k) → H' p = some (.tup [.int ((bs.getD k 0 : Nat) : Int), .bl false]) → Q (.ref p) H')))
abbrev sp_M_look (K : PySem.W.Frag) (CM : MK → Addr) (CR : RK → Addr) (_ : MK) : Sp := sp_Machine_look K CM CR
def sp__law_mixed (K : PySem.W.Frag) : Sp := fun vs H Q _ => ∃ (c : Int) (k : Nat), vs = [.int c, .int k] ∧ k ≤ 100 ∧ ∀ m : Nat, m < 2147483629 → Q (.int m) H
/-- the bit at a place, 0 behind the end -/
def bit0 (ns : List Int) (k : Nat) : Nat := (ns.map fun i => (i % 2).toNat).getD k 0
def sp__law_bit (K : PySem.W.Frag) : Sp := fun vs H Q _ => ∃ (l : Addr) (k : Nat) (ns : List Int), vs = [.ref l, .int k] ∧ SqL K H l (ns.map V.int) ∧ Q (.int ((bit0 ns k : Nat) : Int)) H
def sp__law_right (K : PySem.W.Frag) : Sp := fun vs H Q _ => ∃ (i : Nat), vs = [.int (i : Int), .int (i : Int)] ∧ Q (.bl true) H
def sp__law_used_up (K : PySem.W.Frag) (T : Addr) : Sp := fun vs H Q _ => ∃ (l : Addr) (ns : List Int), vs = [.ref l] ∧ SqL K H l (ns.map V.int) ∧ ns.length ≤ 100 ∧ Tabs T H ∧ ∀ H', SameT H H' → Tabs T H' → Q (.bl true) H'
def sp_law (K : PySem.W.Frag) (T : Addr) : Sp := fun vs H Q _ => ∃ (a : Addr) (ns : List Int), vs = [.ref a] ∧ SqL K H a (ns.map V.int) ∧ ns.length ≤ 63 ∧ Tabs T H ∧ ∀ H', Q (.bl true) H'
theorem pop_pos {n : Nat} (h : n ≠ 0) : pop n ≠ 0 := by have := pop_pred n (by omega); omega
theorem or_ne {x z : Nat} (h : x ≠ 0 ∨ z ≠ 0) : x ||| z ≠ 0 := by
  intro e
  have h1 := Nat.or_eq_zero_iff.1 e
  rcases h with h | h
  · exact h h1.1
  · exact h h1.2
theorem and1_int (c : Int) : Builtin.bitAnd c 1 = c % 2 := by
  rcases (show c < 0 ∨ 0 ≤ c by omega) with h | h
  · obtain ⟨m, rfl⟩ : ∃ m : Nat, c = -(m : Int) - 1 := ⟨(-c - 1).toNat, by omega⟩
    unfold Builtin.bitAnd Builtin.bitNot
    rw [show decide (0 ≤ -(m : Int) - 1) = false from decide_eq_false (by omega), show decide ((0 : Int) ≤ 1) = true from rfl]
    show (1 : Int) - (((1 : Int).toNat &&& (-(-(m : Int) - 1) - 1).toNat : Nat) : Int) = _
    rw [show (-(-(m : Int) - 1) - 1).toNat = m by omega, show (1 : Int).toNat = 1 from rfl, Nat.and_comm, Nat.and_one_is_mod]
    omega
  · obtain ⟨n, rfl⟩ := Int.eq_ofNat_of_zero_le h
    rw [show (1 : Int) = ((1 : Nat) : Int) from rfl, bitAnd_nat, Nat.and_one_is_mod]
    omega
theorem told_ne : ¬ (("bits" : Str) = "told") := by decide +kernel
theorem dflds_put (b t : V) : putF "told" t (putF "bits" b []) = ([("bits", b), ("told", t)] : List (Str × V)) := by simp only [putF, if_neg told_ne]
theorem tflds_put (b t u : V) : putF "told" u [("bits", b), ("told", t)] = ([("bits", b), ("told", u)] : List (Str × V)) := by simp [putF, told_ne]
theorem rfl_told {b t : V} : ([("bits", b), ("told", t)] : List (Str × V)).lookup ("told" : Str) = some t := by
  rw [List.lookup_cons, show (("told" : Str) == "bits") = false by decide +kernel]
  rfl
theorem vn_get {l : List Nat} {i k : Nat} (h : l[i]? = some k) : (vn l)[i]? = some (V.int (k : Int)) := by unfold vn; rw [List.getElem?_map, h]; rfl
theorem isN {b : Bool} {P : Bool → Prop} {v : V} (h : decide (v = V.non) = b) (p : P b) : V.non = V.non ∧ ∃ k, V.bl (decide (v = V.non)) = V.bl k ∧ P k := ⟨rfl, b, by rw [h], p⟩
theorem isNn {b : Bool} {P : Bool → Prop} {v : V} (h : (!decide (v = V.non)) = b) (p : P b) : V.non = V.non ∧ ∃ k, V.bl (!decide (v = V.non)) = V.bl k ∧ P k := ⟨rfl, b, by rw [h], p⟩
theorem nn_t : decide (V.non = V.non) = true := decide_eq_true rfl
theorem nn_f (p : Addr) : decide (V.ref p = V.non) = false := decide_eq_false fun z => by cases z
theorem nn_i (i : Int) : decide (V.int i = V.non) = false := decide_eq_false fun z => by cases z
theorem Dl.bit {CR : RK → Addr} {H : Hp} {d lb : Addr} {bs : List Nat} {k : Nat} (h : Dl CR H d lb bs k) : bs.getD k 0 ≤ 1 := by
  obtain ⟨_, _, _, _, _, h⟩ := h
  rw [List.getD_eq_getElem?_getD]
  cases e : bs[k]? with
  | none => exact Nat.zero_le _
  | some b => exact h b (List.mem_of_getElem? e)
theorem names_ne : (((["bits", "told"] : List Str)) = ((["n", "kept"] : List Str))) → False := by decide +kernel
theorem no_sure {b t : V} : ([("n", b), ("kept", t)] : List (Str × V)).lookup ("sure_value" : Str) = none := by
  rw [List.lookup_cons, show (("sure_value" : Str) == "n") = false by decide +kernel]
  show List.lookup ("sure_value" : Str) [(("kept" : Str), t)] = none
  rw [List.lookup_cons, show (("sure_value" : Str) == "kept") = false by decide +kernel]
  rfl
theorem no_settle {b t : V} : ([("n", b), ("kept", t)] : List (Str × V)).lookup ("settle" : Str) = none := by
  rw [List.lookup_cons, show (("settle" : Str) == "n") = false by decide +kernel]
  show List.lookup ("settle" : Str) [(("kept" : Str), t)] = none
  rw [List.lookup_cons, show (("settle" : Str) == "kept") = false by decide +kernel]
  rfl
theorem lk_no {b t : V} : ([("n", b), ("kept", t)] : List (Str × V)).lookup ("look" : Str) = none := by
  rw [List.lookup_cons, show (("look" : Str) == "n") = false by decide +kernel]
  show List.lookup ("look" : Str) [(("kept" : Str), t)] = none
  rw [List.lookup_cons, show (("look" : Str) == "kept") = false by decide +kernel]
  rfl
theorem Sg.stay {K : PySem.W.Frag} {CM : MK → Addr} {H H' : Hp} {x : Addr} {n : Nat} {rs : List Row} (h : Sg K CM H x n rs) (s : Same H H') : Sg K CM H' x n rs := by
  obtain ⟨dx, l, as, h1, h2, h3⟩ := h
  exact ⟨dx, l, as, s _ _ h1, s _ _ h2, h3.mono fun a r e => s _ _ e⟩
theorem Dl.stay {CR : RK → Addr} {H H' : Hp} {d lb : Addr} {bs : List Nat} {k : Nat} (h : Dl CR H d lb bs k) (s : Same H H') : Dl CR H' d lb bs k := by
  obtain ⟨dx, h1, h2, h3⟩ := h
  exact ⟨dx, s _ _ h1, s _ _ h2, h3⟩
theorem Dr.stay {H H' : Hp} {f d : Addr} (h : Dr H f d) (s : Same H H') : Dr H' f d := by
  obtain ⟨c, o, h1, h2, h3⟩ := h
  exact ⟨c, o, LamAt.same s h1, s _ _ h2, h3⟩
/-- a machine beside an object of other fields that changes -/
theorem Sg.but {K : PySem.W.Frag} {CM : MK → Addr} {H H' : Hp} {x d C dx : Addr} {n : Nat} {rs : List Row} {fs : List (Str × V)} (h : Sg K CM H x n rs) (s : But d H H') (hd : H d = some (.ins C dx fs)) (hf : fs.map (·.1) = (["bits", "told"] : List Str)) : Sg K CM H' x n rs := by
  obtain ⟨dx', l, as, h1, h2, h3⟩ := h
  have n1 : x ≠ d := fun z => by
    rw [z, hd] at h1
    injection h1 with e
    injection e with _ _ e
    rw [e] at hf
    exact names_ne (show (["n", "kept"] : List Str) = (["bits", "told"] : List Str) from hf).symm
  exact ⟨dx', l, as, s _ _ n1 h1, s _ _ (fun z => by rw [z, hd] at h2; cases h2) h2, h3.mono fun a r e => s _ _ (fun z => by
    have e' : H a = some (.tup r.V) := e
    rw [z, hd] at e'
    cases e') e⟩
theorem Dl.but {CR : RK → Addr} {H H' : Hp} {x C dx : Addr} {d l : Addr} {bs : List Nat} {k : Nat} {fs : List (Str × V)} (h : Dl CR H d l bs k) (s : But x H H') (hx : H x = some (.ins C dx fs)) (hf : fs.map (·.1) = (["n", "kept"] : List Str)) : Dl CR H' d l bs k := by
  obtain ⟨dx', h1, h2, h3⟩ := h
  have n1 : d ≠ x := fun z => by
    rw [z, hx] at h1
    injection h1 with e
    injection e with _ _ e
    rw [e] at hf
    exact names_ne (show (["bits", "told"] : List Str) = (["n", "kept"] : List Str) from hf)
  exact ⟨dx', s _ _ n1 h1, s _ _ (fun z => by rw [z, hx] at h2; cases h2) h2, h3⟩
theorem LamAt.but {H H' : Hp} {f x C dx : Addr} {l : Lam} {cl : List (Str × Addr)} {fs : List (Str × V)} (h : LamAt H f l cl) (s : But x H H') (hx : H x = some (.ins C dx fs)) : LamAt H' f l cl := by
  obtain ⟨c', oc, pm, ctv, h1, h2, h3⟩ := h
  exact ⟨c', oc, pm, ctv, s _ _ (fun z => by rw [z, hx] at h1; cases h1) h1, s _ _ (fun z => by rw [z, hx] at h2; cases h2) h2, h3⟩
theorem Dr.but {H H' : Hp} {f d x C dx : Addr} {fs : List (Str × V)} (h : Dr H f d) (s : But x H H') (hx : H x = some (.ins C dx fs)) : Dr H' f d := by
  obtain ⟨c, o, h1, h2, h3⟩ := h
  exact ⟨c, o, LamAt.but h1 s hx, s _ _ (fun z => by rw [z, hx] at h2; cases h2) h2, h3⟩
theorem cut_short {cs : List Addr} (h : cs.length ≤ 1) : cutV (refs cs) (some 1) none = [] := by
  cases cs with
  | nil => exact List.eq_nil_of_length_eq_zero (Nat.le_zero.1 (cutV_length [] (some 1) none))
  | cons c r =>
    cases r with
    | nil => exact cut1 _ _
    | cons d r => exact absurd h (by simp only [List.length_cons]; omega)
theorem besb (r o : Row) : decide (pop (crs r o) % 2 = 0) = !symp r o := by
  cases h : symp r o with
  | false => rw [decide_eq_true (show pop (crs r o) % 2 = 0 from (symp_pop r o).1 h)]; rfl
  | true =>
    rw [decide_eq_false (show ¬ pop (crs r o) % 2 = 0 from fun z => by rw [(symp_pop r o).2 z] at h; cases h)]
    rfl
theorem kept_ne : ¬ (("n" : Str) = "kept") := by decide +kernel
theorem mflds_put (b t : V) : putF "kept" t [("n", b)] = ([("n", b), ("kept", t)] : List (Str × V)) := by simp [putF, kept_ne]
theorem kflds_put (b t u : V) : putF "kept" u [("n", b), ("kept", t)] = ([("n", b), ("kept", u)] : List (Str × V)) := by simp [putF, kept_ne]
theorem rfl_kept {b t : V} : ([("n", b), ("kept", t)] : List (Str × V)).lookup ("kept" : Str) = some t := by
  rw [List.lookup_cons, show (("kept" : Str) == "n") = false by decide +kernel]
  rfl
theorem rfl_no (b t : V) : ([("bits", b), ("told", t)] : List (Str × V)).lookup ("draw" : Str) = none := by
  rw [List.lookup_cons, show (("draw" : Str) == "bits") = false by decide +kernel]
  show List.lookup ("draw" : Str) [(("told" : Str), t)] = none
  rw [List.lookup_cons, show (("draw" : Str) == "told") = false by decide +kernel]
  rfl
/-! a machine of three wires, looked at -/
def bts (ns : List Int) : List Nat := ns.map fun i => (i % 2).toNat
theorem bts_le (ns : List Int) (k : Nat) : (bts ns).getD k 0 ≤ 1 := by
  rw [List.getD_eq_getElem?_getD]
  cases e : (bts ns)[k]? with
  | none => exact Nat.zero_le _
  | some b =>
    obtain ⟨i, _, rfl⟩ := List.mem_map.1 (List.mem_of_getElem? e)
    show (i % 2).toNat ≤ 1
    omega
def R0 : List Row := [⟨0, 0, 1⟩, ⟨0, 0, 2⟩, ⟨0, 0, 4⟩]
def R1 (a : Nat) : List Row := [⟨0, 0, 2⟩, ⟨0, 0, 4⟩, ⟨a, 1, 0⟩]
def R3 (a b : Nat) : List Row := [⟨0, 0, 4⟩, ⟨a, 1, 0⟩, ⟨b, 2, 0⟩]
def R4 (a b c : Nat) : List Row := [⟨a, 1, 0⟩, ⟨b, 2, 0⟩, ⟨c, 4, 0⟩]
def P0 : List Row := [⟨0, 0, 1⟩, ⟨0, 0, 2⟩]
def P1 : List Row := [⟨0, 0, 2⟩, ⟨0, 1, 0⟩]
theorem sy_self (r : Row) : symp r r = false := by
  unfold symp
  rw [Nat.and_comm r.z r.x, Bool.xor_self]
theorem sy_comm {r s : Row} (h : symp r s = false) : symp s r = false := by rw [symp_comm]; exact h
theorem kp_three {r1 r2 r3 : Row} (o1 : r1.Ok 40) (o2 : r2.Ok 40) (o3 : r3.Ok 40) (a : symp r1 r2 = false) (b : symp r1 r3 = false) (c : symp r2 r3 = false) : Kp [r1, r2, r3] := by
  refine ⟨by show (3 : Nat) ≤ 40; decide, fun r hr => ?_, fun r hr s hs => ?_⟩
  · simp only [List.mem_cons, List.not_mem_nil, or_false] at hr
    rcases hr with rfl | rfl | rfl
    · exact o1
    · exact o2
    · exact o3
  · simp only [List.mem_cons, List.not_mem_nil, or_false] at hr hs
    rcases hr with rfl | rfl | rfl <;> rcases hs with rfl | rfl | rfl
    · exact sy_self _
    · exact a
    · exact b
    · exact sy_comm a
    · exact sy_self _
    · exact c
    · exact sy_comm b
    · exact sy_comm c
    · exact sy_self _
theorem kp_two {r1 r2 : Row} (o1 : r1.Ok 40) (o2 : r2.Ok 40) (a : symp r1 r2 = false) : Kp [r1, r2] := by
  refine ⟨by show (2 : Nat) ≤ 40; decide, fun r hr => ?_, fun r hr s hs => ?_⟩
  · simp only [List.mem_cons, List.not_mem_nil, or_false] at hr
    rcases hr with rfl | rfl
    · exact o1
    · exact o2
  · simp only [List.mem_cons, List.not_mem_nil, or_false] at hr hs
    rcases hr with rfl | rfl <;> rcases hs with rfl | rfl
    · exact sy_self _
    · exact a
    · exact sy_comm a
    · exact sy_self _
theorem okr {m x z : Nat} (hm : m ≤ 1) (hx : x ≤ 4) (hz : z ≤ 4) : (Row.mk m x z).Ok 40 := ⟨hm, Nat.lt_of_le_of_lt hx (by decide +kernel), Nat.lt_of_le_of_lt hz (by decide +kernel)⟩
local macro_rules | `(tactic| fail "sy") => `(tactic| (unfold symp; dsimp only; decide +kernel))
theorem kp0 : Kp R0 := kp_three (okr (by decide) (by decide) (by decide)) (okr (by decide) (by decide) (by decide)) (okr (by decide) (by decide) (by decide)) (by fail "sy") (by fail "sy") (by fail "sy")
theorem kp1 {a : Nat} (h : a ≤ 1) : Kp (R1 a) := kp_three (okr (by decide) (by decide) (by decide)) (okr (by decide) (by decide) (by decide)) (okr h (by decide) (by decide)) (by fail "sy") (by fail "sy") (by fail "sy")
theorem kp3 {a b : Nat} (h : a ≤ 1) (h2 : b ≤ 1) : Kp (R3 a b) := kp_three (okr (by decide) (by decide) (by decide)) (okr h (by decide) (by decide)) (okr h2 (by decide) (by decide)) (by fail "sy") (by fail "sy") (by fail "sy")
theorem kp4 {a b c : Nat} (h : a ≤ 1) (h2 : b ≤ 1) (h3 : c ≤ 1) : Kp (R4 a b c) := kp_three (okr h (by decide) (by decide)) (okr h2 (by decide) (by decide)) (okr h3 (by decide) (by decide)) (by fail "sy") (by fail "sy") (by fail "sy")
theorem kq0 : Kp P0 := kp_two (okr (by decide) (by decide) (by decide)) (okr (by decide) (by decide) (by decide)) (by fail "sy")
theorem kq1 : Kp P1 := kp_two (okr (by decide) (by decide) (by decide)) (okr (by decide) (by decide) (by decide)) (by fail "sy")
local macro_rules | `(tactic| fail "nol") => `(tactic| (intro m h; have h1 := h.1; revert h1; simp only [R0, R1, R3, P0, P1, List.map, xsel]; split <;> split <;> first | (split <;> decide) | decide))
theorem no0 : ∀ m, ¬ Lsel R0 m ⟨0, 1, 0⟩ := by fail "nol"
theorem no1 (a : Nat) : ∀ m, ¬ Lsel (R1 a) m ⟨0, 2, 0⟩ := by fail "nol"
theorem no3 (a b : Nat) : ∀ m, ¬ Lsel (R3 a b) m ⟨0, 4, 0⟩ := by fail "nol"
theorem nq0 : ∀ m, ¬ Lsel P0 m ⟨0, 1, 0⟩ := by fail "nol"
theorem nq1 : ∀ m, ¬ Lsel P1 m ⟨0, 2, 0⟩ := by fail "nol"
/-- rows beside o stay -/
theorem flt_t {r o : Row} {rs : List Row} (h : symp r o = true) : (r :: rs).filter (fun r => !symp r o) = rs.filter (fun r => !symp r o) ∧ (r :: rs).filter (fun r => symp r o) = r :: rs.filter (fun r => symp r o) :=
  ⟨List.filter_cons_of_neg (by rw [h]; decide), List.filter_cons_of_pos (p := fun r => symp r o) h⟩
theorem flt_f {r o : Row} {rs : List Row} (h : symp r o = false) : (r :: rs).filter (fun r => !symp r o) = r :: rs.filter (fun r => !symp r o) ∧ (r :: rs).filter (fun r => symp r o) = rs.filter (fun r => symp r o) :=
  ⟨List.filter_cons_of_pos (p := fun r => !symp r o) (by rw [h]; rfl), List.filter_cons_of_neg (p := fun r => symp r o) (by rw [h]; decide)⟩
theorem st0 (v : Nat) : stl R0 ⟨0, 1, 0⟩ v = R1 v ∧ (R0.filter fun r => symp r ⟨0, 1, 0⟩).length ≤ 1 := by
  unfold stl R0
  rw [(flt_t (by fail "sy")).1, (flt_f (by fail "sy")).1, (flt_f (by fail "sy")).1, (flt_t (by fail "sy")).2, (flt_f (by fail "sy")).2, (flt_f (by fail "sy")).2]
  exact ⟨rfl, Nat.le_refl _⟩
theorem st1 (a v : Nat) : stl (R1 a) ⟨0, 2, 0⟩ v = R3 a v ∧ ((R1 a).filter fun r => symp r ⟨0, 2, 0⟩).length ≤ 1 := by
  unfold stl R1
  rw [(flt_t (by fail "sy")).1, (flt_f (by fail "sy")).1, (flt_f (by fail "sy")).1, (flt_t (by fail "sy")).2, (flt_f (by fail "sy")).2, (flt_f (by fail "sy")).2]
  exact ⟨rfl, Nat.le_refl _⟩
theorem st3 (a b v : Nat) : stl (R3 a b) ⟨0, 4, 0⟩ v = R4 a b v ∧ ((R3 a b).filter fun r => symp r ⟨0, 4, 0⟩).length ≤ 1 := by
  unfold stl R3
  rw [(flt_t (by fail "sy")).1, (flt_f (by fail "sy")).1, (flt_f (by fail "sy")).1, (flt_t (by fail "sy")).2, (flt_f (by fail "sy")).2, (flt_f (by fail "sy")).2]
  exact ⟨rfl, Nat.le_refl _⟩
theorem sq0 (v : Nat) : stl P0 ⟨0, 1, 0⟩ v = [⟨0, 0, 2⟩, ⟨v, 1, 0⟩] ∧ (P0.filter fun r => symp r ⟨0, 1, 0⟩).length ≤ 1 := by
  unfold stl P0
  rw [(flt_t (by fail "sy")).1, (flt_f (by fail "sy")).1, (flt_t (by fail "sy")).2, (flt_f (by fail "sy")).2]
  exact ⟨rfl, Nat.le_refl _⟩
theorem sq1 : (P1.filter fun r => symp r ⟨0, 2, 0⟩).length ≤ 1 := by
  unfold P1
  rw [(flt_t (by fail "sy")).2, (flt_f (by fail "sy")).2]
  exact Nat.le_refl _
theorem su1 {a : Nat} (ha : a ≤ 1) {m : Nat} (hm : m < 2 ^ (R1 a).length) (h : Lsel (R1 a) m ⟨0, 1, 0⟩) : vl (R1 a) m ⟨0, 1, 0⟩ = a := by
  have key : ∀ a, a < 2 → ∀ m, m < 8 → xsel [0, 0, 1] m = 1 → xsel [2, 4, 0] m = 0 → vl (R1 a) m ⟨0, 1, 0⟩ = a := by decide +kernel
  exact key a (by omega) m hm h.1 h.2
theorem ex1 (a : Nat) : Lsel (R1 a) 4 ⟨0, 1, 0⟩ := ⟨show xsel [0, 0, 1] 4 = 1 by decide +kernel, show xsel [2, 4, 0] 4 = 0 by decide +kernel⟩
theorem su4 {a b c : Nat} (ha : a ≤ 1) (hb : b ≤ 1) (hc : c ≤ 1) {m : Nat} (hm : m < 2 ^ (R4 a b c).length) (h : Lsel (R4 a b c) m ⟨0, 2, 0⟩) : vl (R4 a b c) m ⟨0, 2, 0⟩ = b := by
  have key : ∀ a, a < 2 → ∀ b, b < 2 → ∀ c, c < 2 → ∀ m, m < 8 → xsel [1, 2, 4] m = 2 → vl (R4 a b c) m ⟨0, 2, 0⟩ = b := by decide +kernel
  exact key a (by omega) b (by omega) c (by omega) m hm h.1
theorem ex4 (a b c : Nat) : Lsel (R4 a b c) 2 ⟨0, 2, 0⟩ := ⟨show xsel [1, 2, 4] 2 = 2 by decide +kernel, show xsel [0, 0, 0] 2 = 0 by decide +kernel⟩
theorem lkr {n x : Nat} (h : x < 2 ^ n) (hn : n ≤ 40) (h0 : x ≠ 0) : Lk n ⟨0, x, 0⟩ := ⟨⟨Nat.zero_le _, h, Nat.two_pow_pos n⟩, hn, rfl, .inl h0⟩
def Rr (a b c : Nat) : Nat → List Row
  | 0 => R0
  | 1 => R1 a
  | 2 => R1 a
  | 3 => R3 a b
  | _ => R4 a b c
def Tt : Nat → Nat
  | 0 => 0
  | 1 => 1
  | 2 => 1
  | 3 => 2
  | _ => 3
theorem bit_min (bs : List Nat) (j : Nat) : bs.getD (min j bs.length) 0 = bs.getD j 0 := by
  rcases Nat.le_total j bs.length with h | h
  · rw [Nat.min_eq_left h]
  · rw [Nat.min_eq_right h, List.getD_eq_getElem?_getD, List.getD_eq_getElem?_getD, List.getElem?_eq_none (Nat.le_refl _), List.getElem?_eq_none h]
theorem nxt_min (bs : List Nat) (j : Nat) : nxt bs (min j bs.length) = min (j + 1) bs.length := by
  unfold nxt
  split <;> omega
/-- what is new, or a table -/
def NT (H : Hp) (p : Addr) : Prop := ∀ o, H p = some o → ∃ ps, o = .tbl ps
theorem noneT {H H' : Hp} {p : Addr} (s : SameT H H') (h : H' p = none) : NT H p := fun o e => by
  by_cases c : ∃ ps, o = .tbl ps
  · exact c
  · rw [s p o e fun ps z => c ⟨ps, z⟩] at h
    cases h
theorem none0 {H : Hp} {p : Addr} (h : H p = none) : NT H p := fun o e => by rw [h] at e; cases e
theorem Sg.t {K : PySem.W.Frag} {CM : MK → Addr} {H H' : Hp} {x : Addr} {n : Nat} {rs : List Row} (h : Sg K CM H x n rs) (s : SameT H H') : Sg K CM H' x n rs := by
  obtain ⟨dx, l, as, h1, h2, h3⟩ := h
  exact ⟨dx, l, as, s _ _ h1 (by intro p z; cases z), s _ _ h2 (by intro p z; cases z), h3.mono fun a r e => s _ _ e (by intro p z; cases z)⟩
def Tp (H : Hp) (p : Addr) (e : Nat × Bool) : Prop := H p = some (.tup [.int (e.1 : Int), .bl e.2])
structure Us (K : PySem.W.Frag) (CM : MK → Addr) (CR : RK → Addr) (T x f d lb pt pq : Addr) (H0 : Hp) (ns : List Int) (es : List (Nat × Bool)) (rs : List Row) (k : Nat) (H : Hp) : Prop where
  same : SameT H0 H
  tb : Tabs T H
  sg : Sg K CM H x 3 rs
  dr : Dr H f d
  dl : Dl CR H d lb (bts ns) k
  told : ∃ ps, H pt = some (.lst (refs ps)) ∧ All2 (Tp H) ps es
  lp : H pq = some (.lst (vn [0, 0, 1, 2, 1]))
theorem TabAt.keep {H G : Hp} {T : Addr} {l : Lam} (k : ∀ a o, H a = some o → (∀ C dx fs, o ≠ .ins C dx fs) → (∀ xs, o ≠ .lst xs) → G a = some o) (h : TabAt H T l) : TabAt G T l := by
  obtain ⟨ps, h1, h2, h3⟩ := h
  exact ⟨ps, k _ _ h1 (by intro a b c z; cases z) (by intro a z; cases z), h2, h3.imp id fun ⟨c, o, g1, g2, g3⟩ => ⟨c, o, g1, k _ _ g2 (by intro a b c z; cases z) (by intro a z; cases z), g3⟩⟩
theorem Dr.keep {H G : Hp} {f d : Addr} (k : ∀ a o, H a = some o → (∀ C dx fs, o ≠ .ins C dx fs) → (∀ xs, o ≠ .lst xs) → G a = some o) (h : Dr H f d) : Dr G f d := by
  obtain ⟨c, o, ⟨c', oc, pm, ctv, g1, g2, g3⟩, h2, h3⟩ := h
  exact ⟨c, o, ⟨c', oc, pm, ctv, k _ _ g1 (by intro a b c z; cases z) (by intro a z; cases z), k _ _ g2 (by intro a b c z; cases z) (by intro a z; cases z), g3⟩, k _ _ h2 (by intro a b c z; cases z) (by intro a z; cases z), h3⟩
theorem Tp.ft {H : Hp} {p : Addr} {e : Nat × Bool} (h : Tp H p e) : Ft H p [.int (e.1 : Int), .bl e.2] := ⟨h, rfl⟩
theorem all_tp {H : Hp} : ∀ {as : List Addr} {es : List (Nat × Bool)}, All2 (Tp H) as es → All2 (Ft H) as (es.map fun e => [V.int (e.1 : Int), .bl e.2])
  | _, _, .nil => .nil
  | _, _, .cons h t => .cons h.ft (all_tp t)
theorem st_neT {K : PySem.W.Frag} {H : Hp} {Q : VK} {a b : Addr} {as bs : List Addr} {es : List (Nat × Bool)} (ha : SqL K H a (refs as)) (hb : SqL K H b (refs bs)) (h1 : All2 (Tp H) as es) (h2 : All2 (Tp H) bs es) (q : Q (.bl false) H) : rNeD K (.ref a) (.ref b) H Q :=
  ⟨_, _, .lst ha (dvs_ft (all_tp h1)), .lst hb (dvs_ft (all_tp h2)), shaped_ft (all_tp h1), shaped_ft (all_tp h2), by rw [PyData.eqv, eqv_ft (all_tp h1)]; exact q⟩
theorem st_eqP {K : PySem.W.Frag} {H : Hp} {Q : VK} {a b : Addr} {i : Int} {c : Bool} (ha : H a = some (.tup [.int i, .bl c])) (hb : H b = some (.tup [.int i, .bl c])) (q : Q (.bl true) H) : rEqD K (.ref a) (.ref b) H Q :=
  ⟨_, _, .tup (SqT.of ha) (dvs_flat rfl), .tup (SqT.of hb) (dvs_flat rfl), shapedT rfl, shapedT rfl, by
    have e : PyData.eqv (.tuple ([V.int i, V.bl c].map dV)) (.tuple ([V.int i, V.bl c].map dV)) = true := by simp [PyData.eqv, PyData.eqvAll, dV]
    rw [e]
    exact q⟩
theorem TabAt.but {H H' : Hp} {T x C dx : Addr} {l : Lam} {fs : List (Str × V)} (h : TabAt H T l) (s : But x H H') (hx : H x = some (.ins C dx fs)) : TabAt H' T l := by
  obtain ⟨ps, h1, h2, h3⟩ := h
  exact ⟨ps, s _ _ (fun z => by rw [z, hx] at h1; cases h1) h1, h2, h3.imp id fun ⟨c, o, g1, g2, g3⟩ => ⟨c, o, g1, s _ _ (fun z => by rw [z, hx] at g2; cases g2) g2, g3⟩⟩
theorem two_three {K : PySem.W.Frag} {H : Hp} {as ps : List Addr} {rs : List Row} {es : List (Nat × Bool)} (h : All2 (Rt K H) as rs) (hrs : rs ≠ []) (t : All2 (Tp H) ps es) (e : refs ps = refs as) : False := by
  match as, rs, ps, es, h, t, e with
  | [], [], _, _, .nil, _, _ => exact hrs rfl
  | a :: as, r :: rs, [], [], _, _, e => cases e
  | a :: as, r :: rs, p :: ps, x :: es, .cons hr _, .cons ht _, e =>
    have e1 : (V.ref p :: refs ps) = (V.ref a :: refs as) := e
    injection e1 with e1 _
    injection e1 with e1
    subst e1
    have hr' : H p = some (.tup r.V) := hr
    have ht' : H p = some (.tup [.int (x.1 : Int), .bl x.2]) := ht
    rw [hr'] at ht'
    injection ht' with ht'
    injection ht' with ht'
    have := congrArg List.length ht'
    exact absurd this (by show ¬ (3 : Nat) = 2; decide)
theorem Us.stay {K : PySem.W.Frag} {CM : MK → Addr} {CR : RK → Addr} {T x f d lb pt pq : Addr} {H0 H H' : Hp} {ns : List Int} {es : List (Nat × Bool)} {rs : List Row} {k : Nat} (u : Us K CM CR T x f d lb pt pq H0 ns es rs k H) (s : Same H H') : Us K CM CR T x f d lb pt pq H0 ns es rs k H' := by
  obtain ⟨ps, h1, h2⟩ := u.told
  exact ⟨fun a o e n => s _ _ (u.same a o e n), ⟨u.tb.1.same s, u.tb.2⟩, u.sg.stay s, u.dr.stay s, u.dl.stay s, ⟨ps, s _ _ h1, h2.mono fun p e x => s _ _ x⟩, s _ _ u.lp⟩
theorem Us.step {K : PySem.W.Frag} {CM : MK → Addr} {CR : RK → Addr} {T x f d lb pt pq p : Addr} {H0 H H' : Hp} {ns : List Int} {es : List (Nat × Bool)} {rs rs' : List Row} {k k' : Nat} {e : Nat × Bool} (u : Us K CM CR T x f d lb pt pq H0 ns es rs k H)
    (hx : NT H0 x) (hd : NT H0 d) (hpt : NT H0 pt) (nl : lb ≠ pt) (nq : pq ≠ pt) (hB : But2 x d H H') (sg' : Sg K CM H' x 3 rs') (hrs : rs' ≠ []) (dl' : Dl CR H' d lb (bts ns) k') (hp : H' p = some (.tup [.int (e.1 : Int), .bl e.2])) :
    ∃ ps, H' pt = some (.lst (refs ps)) ∧ ps.length = es.length ∧ Us K CM CR T x f d lb pt pq H0 ns (es ++ [e]) rs' k' (upd H' pt (.lst (refs ps ++ [.ref p]))) := by
  obtain ⟨ps, h1, h2⟩ := u.told
  obtain ⟨dx0, l0, as0, gx, _⟩ := u.sg
  obtain ⟨dxd, gd, _⟩ := u.dl
  have keep2 : ∀ c o, H c = some o → (∀ C dx fs, o ≠ .ins C dx fs) → H' c = some o := fun c o e n => hB c o (fun z => by
    rw [z, gx] at e
    cases e
    exact n _ _ _ rfl) (fun z => by
    rw [z, gd] at e
    cases e
    exact n _ _ _ rfl) e
  have gpt := keep2 _ _ h1 (by intro a b c z; cases z)
  have bG : But pt H' (upd H' pt (.lst (refs ps ++ [.ref p]))) := But.upd
  have tps : All2 (Tp H') ps es := h2.mono fun a e x => keep2 _ _ x (by intro a b c z; cases z)
  have notl : ∀ c o, H' c = some o → (∀ xs, o ≠ .lst xs) → upd H' pt (.lst (refs ps ++ [.ref p])) c = some o := fun c o e n => bG c o (fun z => by
    rw [z, gpt] at e
    cases e
    exact n _ rfl) e
  have keepG : ∀ a o, H a = some o → (∀ C dx fs, o ≠ .ins C dx fs) → (∀ xs, o ≠ .lst xs) → upd H' pt (.lst (refs ps ++ [.ref p])) a = some o := fun a o e n1 n2 => notl a o (keep2 a o e n1) n2
  refine ⟨ps, gpt, h2.len, fun a o e n => ?_, ⟨TabAt.keep keepG u.tb.1, u.tb.2⟩, ?_, Dr.keep keepG u.dr, ?_, ⟨ps ++ [p], by rw [upd_same, refs_snoc], ?_⟩, bG _ _ nq (keep2 _ _ u.lp (by intro a b c z; cases z))⟩
  · have nt : ∀ q, NT H0 q → a ≠ q := fun q hq z => by
      rw [z] at e
      obtain ⟨ps, r⟩ := hq o e
      exact n ps r
    exact bG _ _ (nt _ hpt) (hB _ _ (nt _ hx) (nt _ hd) (u.same a o e n))
  · obtain ⟨dx, l, as, g1, g2, g3⟩ := sg'
    refine ⟨dx, l, as, notl _ _ g1 (by intro a z; cases z), bG _ _ (fun z => ?_) g2, g3.mono fun a r x => notl _ _ x (by intro a z; cases z)⟩
    rw [z, gpt] at g2
    have e2 : refs ps = refs as := by
      injection g2 with g2
      injection g2
    exact two_three g3 hrs tps e2
  · obtain ⟨dx, g1, g2, g3⟩ := dl'
    exact ⟨dx, notl _ _ g1 (by intro a z; cases z), bG _ _ nl g2, g3⟩
  · exact (tps.mono fun a e x => notl _ _ x (by intro a z; cases z)).snoc (notl _ _ hp (by intro a z; cases z))
theorem nins {C dx : Addr} {fs : List (Str × V)} : ∀ ps, HO.ins C dx fs ≠ .tbl ps := fun ps z => by cases z
theorem cut_intsT (ns : List Int) : ∃ ms : List Int, cutV (ns.map V.int) (some 1) none = ms.map V.int ∧ ms.length ≤ ns.length := by
  unfold cutV
  refine ⟨(ns.drop (HT.sIx ns.length 0 (some 1))).take (HT.sIx ns.length ns.length none - HT.sIx ns.length 0 (some 1)), ?_, ?_⟩
  · rw [List.length_map, List.map_take, List.map_drop]
  · rw [List.length_take, List.length_drop]
    omega
theorem Dr.t {H H' : Hp} {f d : Addr} (h : Dr H f d) (s : SameT H H') : Dr H' f d := by
  obtain ⟨c, o, ⟨c', oc, pm, ctv, g1, g2, g3⟩, h2, h3⟩ := h
  exact ⟨c, o, ⟨c', oc, pm, ctv, s _ _ g1 (by intro a z; cases z), s _ _ g2 (by intro a z; cases z), g3⟩, s _ _ h2 (by intro a z; cases z), h3⟩
theorem Dl.t {CR : RK → Addr} {H H' : Hp} {d lb : Addr} {bs : List Nat} {k : Nat} (h : Dl CR H d lb bs k) (s : SameT H H') : Dl CR H' d lb bs k := by
  obtain ⟨dx, h1, h2, h3⟩ := h
  exact ⟨dx, s _ _ h1 (by intro a z; cases z), s _ _ h2 (by intro a z; cases z), h3⟩
theorem Dl.lst {CR : RK → Addr} {H : Hp} {d lb : Addr} {bs : List Nat} {k : Nat} (h : Dl CR H d lb bs k) : H lb = some (.lst (vn bs)) := by
  obtain ⟨_, _, h, _⟩ := h
  exact h
theorem ne_ins {CR : RK → Addr} {H : Hp} {d lb c : Addr} {bs : List Nat} {k : Nat} {xs : List V} (h : Dl CR H d lb bs k) (e : H c = some (.lst xs)) : c ≠ d := fun z => by
  obtain ⟨dx, h1, _⟩ := h
  rw [z, h1] at e
  cases e
/-- what the law keeps of its drawers -/
structure Lw (CR : RK → Addr) (T ln lo ldr f0 f1 f2 d0 d1 d2 b0 b1 b2 : Addr) (N1 N2 : List Int) (t0 t1 t2 : Nat) (H0 H : Hp) : Prop where
  same : SameT H0 H
  tb : Tabs T H
  hn : H ln = some (.lst (N1.map V.int))
  ho : H lo = some (.lst (N2.map V.int))
  hdr : H ldr = some (.lst [.ref f0, .ref f1, .ref f2])
  r0 : Dr H f0 d0
  r1 : Dr H f1 d1
  r2 : Dr H f2 d2
  l0 : Dl CR H d0 b0 (bts N1) t0
  l1 : Dl CR H d1 b1 (bts N1) t1
  l2 : Dl CR H d2 b2 (bts N2) t2
section
variable {CR : RK → Addr} {T ln lo ldr f0 f1 f2 d0 d1 d2 b0 b1 b2 h : Addr} {N1 N2 : List Int} {t0 t1 t2 t' : Nat} {H0 H H' : Hp} {xs : List V}
theorem Lw.stay (w : Lw CR T ln lo ldr f0 f1 f2 d0 d1 d2 b0 b1 b2 N1 N2 t0 t1 t2 H0 H) (s : Same H H') : Lw CR T ln lo ldr f0 f1 f2 d0 d1 d2 b0 b1 b2 N1 N2 t0 t1 t2 H0 H' :=
  ⟨fun a o e n => s _ _ (w.same a o e n), ⟨w.tb.1.same s, w.tb.2⟩, s _ _ w.hn, s _ _ w.ho, s _ _ w.hdr, w.r0.stay s, w.r1.stay s, w.r2.stay s, w.l0.stay s, w.l1.stay s, w.l2.stay s⟩
theorem nt_ne {a : Addr} {o : HO} (n : NT H0 h) (e : H0 a = some o) (k : ∀ ps, o ≠ .tbl ps) : a ≠ h := fun z => by
  rw [z] at e
  obtain ⟨ps, r⟩ := n o e
  exact k ps r
theorem Dr.butL {f d : Addr} (r : Dr H f d) (s : But h H H') (e : H h = some (.lst xs)) : Dr H' f d := by
  obtain ⟨c, o, ⟨c', oc, pm, ctv, g1, g2, g3⟩, h2, h3⟩ := r
  exact ⟨c, o, ⟨c', oc, pm, ctv, s _ _ (fun z => by rw [z, e] at g1; cases g1) g1, s _ _ (fun z => by rw [z, e] at g2; cases g2) g2, g3⟩, s _ _ (fun z => by rw [z, e] at h2; cases h2) h2, h3⟩
theorem Dl.butL {d lb : Addr} {bs : List Nat} {k : Nat} (r : Dl CR H d lb bs k) (s : But h H H') (e : H h = some (.lst xs)) (n : lb ≠ h) : Dl CR H' d lb bs k := by
  obtain ⟨dx, h1, h2, h3⟩ := r
  exact ⟨dx, s _ _ (fun z => by rw [z, e] at h1; cases h1) h1, s _ _ n h2, h3⟩
theorem TabAt.butL {l : Lam} (r : TabAt H T l) (s : But h H H') (e : H h = some (.lst xs)) : TabAt H' T l := by
  obtain ⟨ps, h1, h2, h3⟩ := r
  exact ⟨ps, s _ _ (fun z => by rw [z, e] at h1; cases h1) h1, h2, h3.imp id fun ⟨c, o, g1, g2, g3⟩ => ⟨c, o, g1, s _ _ (fun z => by rw [z, e] at g2; cases g2) g2, g3⟩⟩
theorem Lw.butL (w : Lw CR T ln lo ldr f0 f1 f2 d0 d1 d2 b0 b1 b2 N1 N2 t0 t1 t2 H0 H) (s : But h H H') (e : H h = some (.lst xs)) (n : NT H0 h) (n1 : ln ≠ h) (n2 : lo ≠ h) (n3 : ldr ≠ h) (n4 : b0 ≠ h) (n5 : b1 ≠ h) (n6 : b2 ≠ h) : Lw CR T ln lo ldr f0 f1 f2 d0 d1 d2 b0 b1 b2 N1 N2 t0 t1 t2 H0 H' :=
  ⟨fun a o e' k => s _ _ (nt_ne n e' k) (w.same a o e' k), ⟨TabAt.butL w.tb.1 s e, w.tb.2⟩, s _ _ n1 w.hn, s _ _ n2 w.ho, s _ _ n3 w.hdr, w.r0.butL s e, w.r1.butL s e, w.r2.butL s e, w.l0.butL s e n4, w.l1.butL s e n5, w.l2.butL s e n6⟩
theorem Dl.butD {d lb d' lb' : Addr} {bs bs' : List Nat} {k k' : Nat} (r : Dl CR H d lb bs k) (q : Dl CR H d' lb' bs' k') (s : But d' H H') (n : d ≠ d') : Dl CR H' d lb bs k := by
  obtain ⟨dx, h1, h2, h3⟩ := r
  exact ⟨dx, s _ _ n h1, s _ _ (ne_ins q h2) h2, h3⟩
theorem Lw.base (w : Lw CR T ln lo ldr f0 f1 f2 d0 d1 d2 b0 b1 b2 N1 N2 t0 t1 t2 H0 H) {d lb : Addr} {bs : List Nat} {k : Nat} (q : Dl CR H d lb bs k) (s : But d H H') (n : NT H0 d) : SameT H0 H' ∧ Tabs T H' ∧ H' ln = some (.lst (N1.map V.int)) ∧ H' lo = some (.lst (N2.map V.int)) ∧ H' ldr = some (.lst [.ref f0, .ref f1, .ref f2]) ∧ Dr H' f0 d0 ∧ Dr H' f1 d1 ∧ Dr H' f2 d2 := by
  obtain ⟨dx, g, _⟩ := id q
  exact ⟨fun a o e' k => s _ _ (nt_ne n e' k) (w.same a o e' k), ⟨TabAt.but w.tb.1 s g, w.tb.2⟩, s _ _ (ne_ins q w.hn) w.hn, s _ _ (ne_ins q w.ho) w.ho, s _ _ (ne_ins q w.hdr) w.hdr, w.r0.but s g, w.r1.but s g, w.r2.but s g⟩
theorem Lw.draw0 (w : Lw CR T ln lo ldr f0 f1 f2 d0 d1 d2 b0 b1 b2 N1 N2 t0 t1 t2 H0 H) (s : But d0 H H') (l : Dl CR H' d0 b0 (bts N1) t') (n1 : d1 ≠ d0) (n2 : d2 ≠ d0) (n : NT H0 d0) : Lw CR T ln lo ldr f0 f1 f2 d0 d1 d2 b0 b1 b2 N1 N2 t' t1 t2 H0 H' := by
  obtain ⟨a1, a2, a3, a4, a5, a6, a7, a8⟩ := w.base w.l0 s n
  exact ⟨a1, a2, a3, a4, a5, a6, a7, a8, l, w.l1.butD w.l0 s n1, w.l2.butD w.l0 s n2⟩
theorem Lw.draw1 (w : Lw CR T ln lo ldr f0 f1 f2 d0 d1 d2 b0 b1 b2 N1 N2 t0 t1 t2 H0 H) (s : But d1 H H') (l : Dl CR H' d1 b1 (bts N1) t') (n1 : d0 ≠ d1) (n2 : d2 ≠ d1) (n : NT H0 d1) : Lw CR T ln lo ldr f0 f1 f2 d0 d1 d2 b0 b1 b2 N1 N2 t0 t' t2 H0 H' := by
  obtain ⟨a1, a2, a3, a4, a5, a6, a7, a8⟩ := w.base w.l1 s n
  exact ⟨a1, a2, a3, a4, a5, a6, a7, a8, w.l0.butD w.l1 s n1, l, w.l2.butD w.l1 s n2⟩
theorem Lw.draw2 (w : Lw CR T ln lo ldr f0 f1 f2 d0 d1 d2 b0 b1 b2 N1 N2 t0 t1 t2 H0 H) (s : But d2 H H') (l : Dl CR H' d2 b2 (bts N2) t') (n1 : d0 ≠ d2) (n2 : d1 ≠ d2) (n : NT H0 d2) : Lw CR T ln lo ldr f0 f1 f2 d0 d1 d2 b0 b1 b2 N1 N2 t0 t1 t' H0 H' := by
  obtain ⟨a1, a2, a3, a4, a5, a6, a7, a8⟩ := w.base w.l2 s n
  exact ⟨a1, a2, a3, a4, a5, a6, a7, a8, w.l0.butD w.l2 s n1, w.l1.butD w.l2 s n2, l⟩
end
theorem eqv_intsM : ∀ N : List Int, PyData.eqvAll ((N.map V.int).map dV) ((N.map V.int).map dV) = true
  | [] => by simp [PyData.eqvAll]
  | i :: N => by
    have := eqv_intsM N
    simp only [List.map_cons, PyData.eqvAll, this, Bool.and_true]
    simp [dV, PyData.eqv]
theorem shapedLL {xs ys : List V} (h : xs.all okV = true) (h2 : ys.all okV = true) : SeqAt.shaped (.list [.list (xs.map dV), .list (ys.map dV)]) = true := by
  simp [SeqAt.shaped, PyData.canLay0, PyData.canLayAll0, PyData.depth, PyData.depthAll, dVs_lay h, dVs_depth, dVs_lay h2]
theorem st_neLL {K : PySem.W.Frag} {H : Hp} {Q : VK} {a b a1 a2 c1 c2 : Addr} {N1 N2 : List Int} (ha : SqL K H a [.ref a1, .ref a2]) (hb : SqL K H b [.ref c1, .ref c2]) (h1 : SqL K H a1 (N1.map V.int)) (h2 : SqL K H a2 (N2.map V.int)) (g1 : SqL K H c1 (N1.map V.int)) (g2 : SqL K H c2 (N2.map V.int)) (q : Q (.bl false) H) : rNeD K (.ref a) (.ref b) H Q :=
  ⟨_, _, .lst ha (.cons (.lst h1 (dvs_flat (ints_flat N1))) (.cons (.lst h2 (dvs_flat (ints_flat N2))) .nil)), .lst hb (.cons (.lst g1 (dvs_flat (ints_flat N1))) (.cons (.lst g2 (dvs_flat (ints_flat N2))) .nil)), shapedLL (ints_flat N1) (ints_flat N2), shapedLL (ints_flat N1) (ints_flat N2), by
    have e : PyData.eqv (.list [.list ((N1.map V.int).map dV), .list ((N2.map V.int).map dV)]) (.list [.list ((N1.map V.int).map dV), .list ((N2.map V.int).map dV)]) = true := by
      simp only [PyData.eqv, PyData.eqvAll, eqv_intsM, Bool.and_true]
    rw [e]
    exact q⟩
theorem nlst {xs : List V} : ∀ ps, HO.lst xs ≠ .tbl ps := fun ps z => by cases z
section
variable {P : Program} {w : World} {K : PySem.W.Frag} {mg : Str → Option Value} {base : Heap} {C_WireError C_NoProduct C_NoWires C_NoRow C_NoLook cc_drawer_of TT_drawer_of : Addr} {CD_S : SK → Addr} {CD_R : RK → Addr} {CD_M : MK → Addr}
theorem ok_ones {f : Addr} {fd : FuncData} (F : Fun K "ones" "ones" s_ones f fd)  : FnOk P w K mg base CX0 1 f fd ["number"] (sp_ones K) := by
  refine F.ok sc_ones (fun vs H Q E h => ?_) (fun cdv A outer s H vs Q E hr h => ?_)
  · obtain ⟨_, rfl, _⟩ := h
    rfl
  obtain ⟨n, rfl, q⟩ := h
  refine ⟨_, (pss_cons (ps_set (i := 1) sc_ones.nd rfl (Or.inl rfl) pe_int)
      (pss_cons (ps_set (i := 2) sc_ones.nd rfl (Or.inl rfl) (pv 0))
      (pss_cons (ps_while PassesOwn.never (pt_cmpR (op_gt) (pv 2) pe_int (nomark _)) (pss_cons (ps_set (i := 2) sc_ones.nd rfl (Or.inl rfl) (pe_op (op_and) (pv 2) (pe_op (op_sub) (pv 2) pe_int)))
      (pss_one (ps_set (i := 1) sc_ones.nd rfl (Or.inl rfl) (pe_op (op_add) (pv 1) pe_int)))))
      (pss_one (ps_ret (pv 1)))))), ?_⟩
  fail "go"
  refine ⟨fun m σ H' => ∃ k r : Nat, σ = [some (.int n), some (.int k), some (.int r)] ∧ H' = H ∧ m = r ∧ k + pop r = pop n, ⟨n, 0, n, rfl, rfl, rfl, by omega⟩, ?_⟩
  rintro m σ H' ⟨k, r, rfl, rfl, rfl, e⟩
  fail "go"
  refine iteD (fun c => ?_) (fun c => ?_)
  · have c' : 0 < m := by omega
    refine ⟨fun σ' H1 => ∃ k r : Nat, σ' = [some (.int n), some (.int k), some (.int r)] ∧ H1 = H' ∧ r < m ∧ k + pop r = pop n, fun σ' H1 ⟨k, r, e1, e2, e3, e4⟩ => ⟨r, e3, k, r, e1, e2, rfl, e4⟩, ?_⟩
    fail "go"
    rw [bitAnd_pred c']
    have := pop_pred m c'
    exact ⟨k + 1, m &&& (m - 1), rfl, rfl, and_pred_lt c', by omega⟩
  · have c' : m = 0 := by omega
    subst c'
    rw [pop_zero, Nat.add_zero] at e
    subst e
    fail "go"
    exact q
theorem ok_goes_beside {f : Addr} {fd : FuncData} (F : Fun K "goes_beside" "goes_beside" s_goes_beside f fd) (g_XS : GC mg "XS" (.int 1)) (g_ZS : GC mg "ZS" (.int 2)) (c_ones : Cal P w K mg base CX0 1 "ones" ["number"] (sp_ones K)) : FnOk P w K mg base CX0 2 f fd ["one", "other"] (sp_goes_beside K) := by
  refine F.ok sc_goes_beside (fun vs H Q E h => ?_) (fun cdv A outer s H vs Q E hr h => ?_)
  · obtain ⟨_, _, _, _, rfl, _⟩ := h
    rfl
  obtain ⟨a, b, r, t, rfl, ha, hb, q⟩ := h
  refine ⟨_, (pss_cons (ps_set (i := 2) sc_goes_beside.nd rfl (Or.inl rfl) (pe_op (op_xor) (pe_op (op_and) (pe_ix (ix_tup) (pv 0) (pe_gc g_XS) (fun _ _ => rfl)) (pe_ix (ix_tup) (pv 1) (pe_gc g_ZS) (fun _ _ => rfl))) (pe_op (op_and) (pe_ix (ix_tup) (pv 0) (pe_gc g_ZS) (fun _ _ => rfl)) (pe_ix (ix_tup) (pv 1) (pe_gc g_XS) (fun _ _ => rfl)))))
      (pss_one (ps_ret (pe_cmpR (op_eq) (pe_op (op_mod) (pe_fn c_ones hr pass0 (pa_cons (pv 2) pa_nil)) pe_int) pe_int (nomark _))))), ?_⟩
  fail "st"
  unfold Row.V at ha hb
  fail "go"
  refine ⟨_, rfl, ?_⟩
  fail "go"
  have e : (((pop (crs r t) : Nat) : Int) % 2 = 0) = (pop (crs r t) % 2 = 0) := by apply propext; omega
  show Q (.bl (decide (((pop (crs r t) : Nat) : Int) % 2 = 0))) H
  simp only [e]
  exact q
theorem ok_letters_y {f : Addr} {fd : FuncData} (F : Fun K "letters_y" "letters_y" s_letters_y f fd) (c_ones : Cal P w K mg base CX0 1 "ones" ["number"] (sp_ones K)) (g_XS : GC mg "XS" (.int 1)) (g_ZS : GC mg "ZS" (.int 2)) : FnOk P w K mg base CX0 2 f fd ["row"] (sp_letters_y K) := by
  refine F.ok sc_letters_y (fun vs H Q E h => ?_) (fun cdv A outer s H vs Q E hr h => ?_)
  · obtain ⟨_, _, rfl, _⟩ := h
    rfl
  obtain ⟨a, r, rfl, ha, q⟩ := h
  refine ⟨_, (pss_one (ps_ret (pe_fn c_ones hr pass0 (pa_cons (pe_op (op_and) (pe_ix (ix_tup) (pv 0) (pe_gc g_XS) (fun _ _ => rfl)) (pe_ix (ix_tup) (pv 0) (pe_gc g_ZS) (fun _ _ => rfl))) pa_nil)))), ?_⟩
  fail "st"
  unfold Row.V at ha
  fail "go"
  exact ⟨_, rfl, q⟩
theorem ok_times {f : Addr} {fd : FuncData} (F : Fun K "times" "times" s_times f fd) (c_goes_beside : Cal P w K mg base CX0 2 "goes_beside" ["one", "other"] (sp_goes_beside K)) (c_NoProduct : ExcC K mg "NoProduct" C_NoProduct) (g_XS : GC mg "XS" (.int 1)) (g_ZS : GC mg "ZS" (.int 2)) (c_ones : Cal P w K mg base CX0 1 "ones" ["number"] (sp_ones K)) (g_MINUS : GC mg "MINUS" (.int 0)) (c_letters_y : Cal P w K mg base CX0 2 "letters_y" ["row"] (sp_letters_y K)) : FnOk P w K mg base (CXE P w) 3 f fd ["one", "other"] (sp_times K C_NoProduct) := by
  refine F.okE sc_times (fun vs H Q E h => ?_) (fun cdv A outer s H vs Q E hr h => ?_)
  · obtain ⟨_, _, _, _, rfl, _⟩ := h
    rfl
  obtain ⟨a, b, r, t, rfl, ha, hb, q1, q2⟩ := h
  refine ⟨_, (pss_cons (ps_if (pt_not (pt_val (pe_fn c_goes_beside hr pass0 (pa_cons (pv 0) (pa_cons (pv 1) pa_nil))))) (pss_one (ps_raise c_NoProduct raisesE (pa_cons pe_str pa_nil) rfl)) pss_nil)
      (pss_cons (ps_set (i := 2) sc_times.nd rfl (Or.inl rfl) (pe_op (op_xor) (pe_ix (ix_tup) (pv 0) (pe_gc g_XS) (fun _ _ => rfl)) (pe_ix (ix_tup) (pv 1) (pe_gc g_XS) (fun _ _ => rfl))))
      (pss_cons (ps_set (i := 3) sc_times.nd rfl (Or.inl rfl) (pe_op (op_xor) (pe_ix (ix_tup) (pv 0) (pe_gc g_ZS) (fun _ _ => rfl)) (pe_ix (ix_tup) (pv 1) (pe_gc g_ZS) (fun _ _ => rfl))))
      (pss_cons (ps_set (i := 4) sc_times.nd rfl (Or.inl rfl) (pe_op (op_add) (pe_op (op_add) (pe_ix (ix_tup) (pv 0) (pe_gc g_MINUS) (fun _ _ => rfl)) (pe_ix (ix_tup) (pv 1) (pe_gc g_MINUS) (fun _ _ => rfl))) (pe_fn c_ones hr pass0 (pa_cons (pe_op (op_and) (pe_ix (ix_tup) (pv 0) (pe_gc g_XS) (fun _ _ => rfl)) (pe_ix (ix_tup) (pv 1) (pe_gc g_ZS) (fun _ _ => rfl))) pa_nil))))
      (pss_cons (ps_set (i := 5) sc_times.nd rfl (Or.inl rfl) (pe_op (op_sub) (pe_op (op_add) (pe_op (op_add) (pe_op (op_mul) pe_int (pv 4)) (pe_fn c_letters_y hr pass0 (pa_cons (pv 0) pa_nil))) (pe_fn c_letters_y hr pass0 (pa_cons (pv 1) pa_nil))) (pe_fn c_ones hr pass0 (pa_cons (pe_op (op_and) (pv 2) (pv 3)) pa_nil))))
      (pss_one (ps_ret (pe_tup (pa_cons (pe_op (op_fdivW) (pe_op (op_mod) (pv 5) pe_int) pe_int) (pa_cons (pv 2) (pa_cons (pv 3) pa_nil))))))))))), ?_⟩
  fail "st"
  fail "go"
  refine ⟨a, b, r, t, rfl, ha, hb, ?_⟩
  fail "go"
  refine iteN (fun c => ?_) (fun c => ?_)
  · fail "go"
    exact ⟨by decide, q2 c⟩
  have hs : symp r t = false := (symp_pop r t).2 c
  unfold Row.V at ha hb
  fail "go"
  refine ⟨_, rfl, ?_⟩
  fail "go"
  refine ⟨a, r, rfl, ha, ?_⟩
  fail "go"
  refine ⟨b, t, rfl, hb, ?_⟩
  fail "go"
  refine ⟨_, rfl, ?_⟩
  fail "go"
  rename_i p hp
  have q3 := q1 hs p hp
  unfold Row.V at q3
  rw [← tm_prog hs] at q3
  exact q3
theorem ok_bit_at {f : Addr} {fd : FuncData} (F : Fun K "bit_at" "bit_at" s_bit_at f fd)  : FnOk P w K mg base CX0 1 f fd ["number", "k"] (sp_bit_at K) := by
  refine F.ok sc_bit_at (fun vs H Q E h => ?_) (fun cdv A outer s H vs Q E hr h => ?_)
  · obtain ⟨_, _, rfl, _⟩ := h
    rfl
  obtain ⟨n, k, rfl, q⟩ := h
  refine ⟨_, (pss_one (ps_ret (pe_op (op_and) (pe_op (op_shr) (pv 0) (pv 1)) pe_int))), ?_⟩
  fail "go"
  exact q
theorem ok_places {f : Addr} {fd : FuncData} (F : Fun K "places" "places" s_places f fd) (b_range : mg "range" = none) (c_bit_at : Cal P w K mg base CX0 1 "bit_at" ["number", "k"] (sp_bit_at K)) : FnOk P w K mg base CX0 2 f fd ["number"] (sp_places K) := by
  refine F.ok sc_places (fun vs H Q E h => ?_) (fun cdv A outer s H vs Q E hr h => ?_)
  · obtain ⟨_, rfl, _⟩ := h
    rfl
  obtain ⟨n, rfl, hn, q⟩ := h
  refine ⟨_, (pss_one (ps_ret (pe_comp (sc := defScope s_places) rfl ⟨rfl, by decide +kernel, rfl, by decide +kernel, by decide +kernel, by decide +kernel, by decide +kernel⟩ (by show ("k" : Str) ∉ (["number"] : List Str); decide +kernel) (by show (".0" : Str) ∉ (["number"] : List Str); decide +kernel) sc_places.nd rfl (pi_range1 rfl b_range (pa_cons (pe_bm0 PySem.F.plainAttrs_int PySem.F.slot_int_bit_length PySem.F.type_int_bit_length mt_bit_length (pv 0)) pa_nil)) (fun _ _ _ _ => (pif_one (pt_cmpR (op_eq) (pe_fn c_bit_at hr pass0 (pa_cons (pv 1) (pa_cons (pv 0) pa_nil))) pe_int (nomark _)))) (fun _ _ _ _ => (pv 0))))), ?_⟩
  fail "st"
  fail "go"
  have hb : Builtin.Int.intBits (n : Int) ≤ 100 := bits_le hn
  refine st_comp_range (n := Builtin.Int.intBits (n : Int)) (by omega) (fun P h => ?_) (fun i ys H' => ys = vn (plc n i) ∧ H' = H) ⟨rfl, rfl⟩ ?_ ?_ ?_
  · fail "go"
    exact h
  · rintro i ys H' ⟨rfl, rfl⟩
    unfold vn
    rw [List.length_map, plc_len]
    exact cnt_le _ _
  · rintro i ys H' hi ⟨rfl, rfl⟩
    fail "go"
    refine ⟨n, i, rfl, ?_⟩
    fail "go"
    refine iteD (fun c => ?_) (fun c => ?_)
    · have e : n.testBit i = true := by
        revert c; unfold bI; cases n.testBit i <;> decide
      fail "go"
      refine ⟨?_, rfl⟩
      rw [plc, if_pos e]
      unfold vn
      rw [List.map_append]
      rfl
    · have e : n.testBit i = false := by
        revert c; unfold bI; cases n.testBit i <;> decide
      refine ⟨?_, rfl⟩
      rw [plc, e]
      rfl
  · rintro ys H' ⟨rfl, rfl⟩
    exact q
theorem ok_Span_left_of {f : Addr} {fd : FuncData} (F : Fun K "left_of" "Span.left_of" s_Span_left_of f fd) (T_S : Txt_S K CD_S) : FnOk P w K mg base CX0 1 f fd ["self", "number", "which"] (sp_Span_left_of K CD_S) := by
  refine F.ok sc_Span_left_of (fun vs H Q E h => ?_) (fun cdv A outer s H vs Q E hr h => ?_)
  · obtain ⟨_, _, _, _, _, _, rfl, _⟩ := h
    rfl
  obtain ⟨p, l, x, w, us, ss, rfl, ⟨dx, as, hp, hl, hss, ok, hz⟩, hu, q⟩ := h
  refine ⟨_, (pss_cons (ps_set (i := 3) sc_Span_left_of.nd rfl (Or.inl rfl) (pv 1))
      (pss_cons (ps_for PassesOwn.never rfl (pi_list (pe_fld (pv 0) rfl)) (pg_tup rfl (pgs_cons (pg_name (i := 4) sc_Span_left_of.nd rfl (Or.inl rfl)) (pgs_cons (pg_name (i := 5) sc_Span_left_of.nd rfl (Or.inl rfl)) (pgs_cons (pg_name (i := 6) sc_Span_left_of.nd rfl (Or.inl rfl)) pgs_nil)))) (pss_one (ps_if (pt_cmpR (op_ne) (pe_op (op_and) (pv 3) (pv 4)) pe_int (nomark _)) (pss_cons (ps_set (i := 3) sc_Span_left_of.nd rfl (Or.inl rfl) (pe_op (op_xor) (pv 3) (pv 5)))
      (pss_one (ps_set (i := 2) sc_Span_left_of.nd rfl (Or.inl rfl) (pe_op (op_xor) (pv 2) (pv 6))))) pss_nil)))
      (pss_one (ps_ret (pe_tup (pa_cons (pv 3) (pa_cons (pv 2) pa_nil))))))), ?_⟩
  fail "st"
  fail "go"
  refine st_forE ?_
  fail "go"
  refine st_fld1 hp (T_S.cl _) (T_S.n_sums _) (sums_look _ _) ?_
  refine st_forAt (SqL.of hl) (fun i σ H' => ∃ (u1 u2 u3 : Option V), σ = [some (.ref p), some (.int x), some (.int ((red (ss.take i) x w).2 : Int)), some (.int ((red (ss.take i) x w).1 : Int)), u1, u2, u3] ∧ Same H H') ⟨none, none, none, rfl, Same.refl _⟩ ?_ ?_ ?_
  · rintro i σ H' _ ⟨_, _, _, _, s⟩
    exact SqL.of (s _ _ hl)
  · rintro i y σ H' hy ⟨u1, u2, u3, rfl, s⟩
    obtain ⟨a, ha, rfl⟩ := refs_get hy
    obtain ⟨sm, hsm, hsa⟩ := hss.get ha
    have hsa' : SqT K H' a [.int ((2 ^ sm.j : Nat) : Int), .int (sm.t : Int), .int (sm.p : Int)] := SqT.of (s _ _ hsa)
    rw [red_at x w hsm]
    generalize red (ss.take i) x w = lw
    obtain ⟨lf, wh⟩ := lw
    dsimp only
    have hz := and_pow_ne lf sm.j
    fail "go"
    by_cases hb : lf.testBit sm.j = true
    · simp only [if_pos hb]
      refine iteN (fun c => ?_) (fun c => ?_)
      · fail "go"
        exact ⟨_, _, _, rfl, s⟩
      · rw [hz.mp c] at hb
        cases hb
    · simp only [if_neg hb]
      refine iteN (fun c => (c (hz.mpr (eq_false_of_ne_true hb))).elim) (fun c => ?_)
      fail "go"
      exact ⟨_, _, _, rfl, s⟩
  · rintro σ H' ⟨u1, u2, u3, rfl, s⟩
    fail "go"
    rename_i p2 hp2
    rw [refs_len, hss.len, List.take_length]
    exact q p2 _ (s.trans (same_new hp2 _)) upd_same
theorem ok_Span_take {f : Addr} {fd : FuncData} (F : Fun K "take" "Span.take" s_Span_take f fd) (m_S_left_of : ∀ d : SK, MCal P w K mg base CX0 1 (CD_S d) "left_of" ["self", "number", "which"] (sp_S_left_of K CD_S d)) (T_S : Txt_S K CD_S) (c_lowest_bit : Cal P w K mg base CX0 1 "lowest_bit" ["number"] (sp_lowest_bit K)) : FnOk P w K mg base CX0 2 f fd ["self", "number"] (sp_Span_take K CD_S) := by
  refine F.ok sc_Span_take (fun vs H Q E h => ?_) (fun cdv A outer s H vs Q E hr h => ?_)
  · obtain ⟨_, _, _, _, _, rfl, _⟩ := h
    rfl
  obtain ⟨p, l, x, us, ss, rfl, hS, hu, q⟩ := h
  refine ⟨_, (pss_cons (ps_set (i := 2) sc_Span_take.nd rfl (Or.inl rfl) (pe_md m_S_left_of hr pass0 (pv 0) (pa_cons (pv 1) (pa_cons (pe_op (op_shl) pe_int (pe_fld (pv 0) rfl)) pa_nil))))
      (pss_cons (ps_fld (pv 0) (pe_op (op_add) (pe_fld (pv 0) rfl) pe_int) rfl)
      (pss_one (ps_if (pt_cmpR (op_ne) (pe_ix (ix_tup) (pv 2) pe_int (fun _ _ => rfl)) pe_int (nomark _)) (pss_one (ps_expr (pe_bm PySem.F.plainAttrs_list PySem.F.slot_list_append PySem.F.type_list_append mt_append (pe_fld (pv 0) rfl) (pa_cons (pe_tup (pa_cons (pe_fn c_lowest_bit hr pass0 (pa_cons (pe_ix (ix_tup) (pv 2) pe_int (fun _ _ => rfl)) pa_nil)) (pa_cons (pe_ix (ix_tup) (pv 2) pe_int (fun _ _ => rfl)) (pa_cons (pe_ix (ix_tup) (pv 2) pe_int (fun _ _ => rfl)) pa_nil)))) pa_nil)))) pss_nil)))), ?_⟩
  fail "st"
  obtain ⟨dx, as, hp, hl, hss, ok, hz⟩ := id hS
  fail "go"
  refine st_md1 hp (no_look _ _ (by decide +kernel) (by decide +kernel)) ?_
  fail "go"
  refine st_fld1 hp (T_S.cl _) (T_S.n_taken _) (taken_look _ _) ?_
  fail "go"
  refine ⟨p, l, x, 2 ^ us.length, us, ss, rfl, hS, hu, fun q2 H' s hq2 => ?_⟩
  have hp' := s _ _ hp
  have hl' := s _ _ hl
  have hss' := hss.mono fun a d (x : Sm3 H a d) => s _ _ x
  have key := fun j hj => SpOk.take ok x j hj
  generalize hr : red ss x (2 ^ us.length) = lw at hq2 key
  obtain ⟨lf, wh⟩ := lw
  dsimp only at hq2 key
  fail "go"
  refine st_fld1 hp' (T_S.cl _) (T_S.n_taken _) (taken_look _ _) ?_
  fail "go"
  refine st_put1 hp' (T_S.cl _) (T_S.n_taken _) (by show 2 < 1000; decide) ?_
  rw [taken_put, show ((us.length : Nat) : Int) + 1 = (((us ++ [x]).length : Nat) : Int) from by rw [List.length_append]; push_cast; rfl]
  have npl : l ≠ p := ne_of hl' hp' (by intro z; cases z)
  have B1 : But p H' (upd H' p (.ins (CD_S .span) dx (sflds l (((us ++ [x]).length : Nat) : Int)))) := But.upd
  have f_p : (upd H' p (.ins (CD_S .span) dx (sflds l (((us ++ [x]).length : Nat) : Int)))) p = some (.ins (CD_S .span) dx (sflds l (((us ++ [x]).length : Nat) : Int))) := upd_same
  generalize upd H' p (.ins (CD_S .span) dx (sflds l (((us ++ [x]).length : Nat) : Int))) = G at B1 f_p ⊢
  have f_l := B1 _ _ npl hl'
  have f_q : G q2 = some (.tup [.int (lf : Int), .int (wh : Int)]) := B1 _ _ (ne_of hq2 hp' (by intro z; cases z)) hq2
  have f_s := hss'.mono fun a d (x : Sm3 H' a d) => (B1 _ _ (ne_of x hp' (by intro z; cases z)) x : Sm3 G a d)
  have sq : SqT K G q2 [.int (lf : Int), .int (wh : Int)] := SqT.of f_q
  have oth1 : ∀ c o, c ≠ p → H c = some o → G c = some o := fun c o hc e => B1 c o hc (s c o e)
  have lss : as.length = ss.length := hss.len
  fail "go"
  refine iteN (fun c => ?_) (fun c => ?_)
  · have hlf : lf ≠ 0 := fun z => c (by rw [z]; rfl)
    fail "go"
    refine st_fld1 f_p (T_S.cl _) (T_S.n_sums _) (sums_look _ _) ?_
    have sl : SqL K G l (refs as) := SqL.of f_l
    have hle : (refs as).length ≤ 900 := by rw [refs_len]; omega
    fail "go"
    refine ⟨lf, rfl, by omega, fun j hj => ?_⟩
    fail "go"
    rename_i p3 hp3
    have S3 := same_new hp3 (.tup [.int ((2 ^ j : Nat) : Int), .int (lf : Int), .int (wh : Int)])
    have w3 : Sm3 (upd G p3 (.tup [.int ((2 ^ j : Nat) : Int), .int (lf : Int), .int (wh : Int)])) p3 ⟨j, lf, wh⟩ := upd_same
    generalize upd G p3 (.tup [.int ((2 ^ j : Nat) : Int), .int (lf : Int), .int (wh : Int)]) = G3 at S3 w3 ⊢
    have g_l := S3 _ _ f_l
    have k1 := key j fun _ => hj
    rw [if_pos hlf] at k1
    have B3 : But l G3 (upd G3 l (.lst (refs as ++ [.ref p3]))) := But.upd
    refine q _ (ss ++ [⟨j, lf, wh⟩]) (fun c o h1 h2 e => B3 c o h2 (S3 _ _ (oth1 c o h1 e))) ⟨dx, as ++ [p3], B3 _ _ (Ne.symm npl) (S3 _ _ f_p), by rw [upd_same, refs_snoc], ?_, k1, by rw [List.length_append, List.length_append]; show _ + 1 ≤ _ + 1; omega⟩
    exact (f_s.mono fun a d (x : Sm3 G a d) => (B3 _ _ (ne_of (S3 _ _ x) g_l (by intro z; cases z)) (S3 _ _ x) : Sm3 _ a d)).snoc (B3 _ _ (ne_of w3 g_l (by intro z; cases z)) w3)
  · have hlf : lf = 0 := by omega
    fail "go"
    have k0 := key 0 fun z => (z hlf).elim
    rw [if_neg (fun z => z hlf)] at k0
    exact q _ ss (fun c o h1 _ e => oth1 c o h1 e) ⟨dx, as, f_p, f_l, f_s, k0, by rw [List.length_append]; show _ ≤ _ + 1; omega⟩
theorem ok_Span___init__ {f : Addr} {fd : FuncData} (F : Fun K "__init__" "Span.__init__" s_Span___init__ f fd) (T_S : Txt_S K CD_S) (m_S_take : ∀ d : SK, MCal P w K mg base CX0 2 (CD_S d) "take" ["self", "number"] (sp_S_take K CD_S d)) : FnOk P w K mg base CX0 3 f fd ["self", "numbers"] (sp_Span___init__ K CD_S) := by
  refine F.ok sc_Span___init__ (fun vs H Q E h => ?_) (fun cdv A outer s H vs Q E hr h => ?_)
  · obtain ⟨_, _, _, _, rfl, _⟩ := h
    rfl
  obtain ⟨p, n, dx, us, rfl, hp, hn, hu, q⟩ := h
  refine ⟨_, (pss_cons (ps_fld (pv 0) (pe_lst pa_nil) rfl)
      (pss_cons (ps_fld (pv 0) pe_int rfl)
      (pss_one (ps_for PassesOwn.never rfl (pi_list (pv 1)) (pg_name (i := 2) sc_Span___init__.nd rfl (Or.inl rfl)) (pss_one (ps_expr (pe_md m_S_take hr pass0 (pv 0) (pa_cons (pv 2) pa_nil)))))))), ?_⟩
  fail "st"
  fail "go"
  rename_i l hl
  have npl : p ≠ l := fun z => by rw [z, hl] at hp; cases hp
  refine st_put1 (by rw [upd_ne npl]; exact hp) (T_S.cl _) (T_S.n_sums _) (by show 0 < 1000; decide) ?_
  fail "go"
  refine st_put1 upd_same (T_S.cl _) (T_S.n_taken _) (by show 1 < 1000; decide) ?_
  rw [upd_upd, first_put]
  have f_p : (upd (upd H l (.lst [])) p (.ins (CD_S .span) dx (sflds l 0))) p = some (.ins (CD_S .span) dx (sflds l 0)) := upd_same
  have f_l : (upd (upd H l (.lst [])) p (.ins (CD_S .span) dx (sflds l 0))) l = some (.lst (refs [])) := by rw [upd_ne (Ne.symm npl)]; exact upd_same
  have oth : ∀ c o, c ≠ p → H c = some o → (upd (upd H l (.lst [])) p (.ins (CD_S .span) dx (sflds l 0))) c = some o := fun c o hc e => by rw [upd_ne hc]; exact same_new hl _ _ _ e
  generalize upd (upd H l (.lst [])) p (.ins (CD_S .span) dx (sflds l 0)) = G at f_p f_l oth ⊢
  have nnp : n ≠ p := ne_of hn hp (by intro z; cases z)
  fail "go"
  refine st_for_list (fun P h => ⟨_, rfl, h⟩) (SqL.of (oth _ _ nnp hn)) (fun i σ H' => ∃ (u : Option V) (ss : List Sm), σ = [some (.ref p), some (.ref n), u] ∧ SnAt CD_S H' p l (us.take i) ss ∧ ∀ c o, c ≠ p → H c = some o → H' c = some o) ⟨none, [], rfl, ⟨dx, [], f_p, f_l, .nil, SpOk.nil, Nat.le_refl _⟩, oth⟩ ?_ ?_ ?_
  · rintro i σ H' _ ⟨u, ss, _, _, o⟩
    exact SqL.of (o _ _ nnp hn)
  · rintro i y σ H' hy ⟨u, ss, rfl, hS, o⟩
    obtain ⟨v, rfl, hv⟩ := vn_at hy
    obtain ⟨dx', as, hp', hl', hss, ok, hz⟩ := id hS
    fail "go"
    refine st_md1 hp' (no_look _ _ (by decide +kernel) (by decide +kernel)) ?_
    fail "go"
    refine ⟨p, l, v, us.take i, ss, rfl, hS, by rw [List.length_take]; omega, fun H2 ss' o2 hS2 => ?_⟩
    fail "go"
    refine ⟨_, ss', rfl, by rw [take_succ_of hv]; exact hS2, fun c ob hc e => o2 c ob hc (fun z => by rw [z, hl] at e; cases e) (o c ob hc e)⟩
  · rintro σ H' ⟨u, ss, rfl, hS, o⟩
    rw [vn_len, List.take_length] at hS
    fail "go"
    exact q H' l ss o hl hS
theorem ok_Span_parts_of {f : Addr} {fd : FuncData} (F : Fun K "parts_of" "Span.parts_of" s_Span_parts_of f fd) (m_S_left_of : ∀ d : SK, MCal P w K mg base CX0 1 (CD_S d) "left_of" ["self", "number", "which"] (sp_S_left_of K CD_S d)) : FnOk P w K mg base CX0 2 f fd ["self", "number"] (sp_Span_parts_of K CD_S) := by
  refine F.ok sc_Span_parts_of (fun vs H Q E h => ?_) (fun cdv A outer s H vs Q E hr h => ?_)
  · obtain ⟨_, _, _, _, _, rfl, _⟩ := h
    rfl
  obtain ⟨p, l, x, us, ss, rfl, hS, hu, q⟩ := h
  refine ⟨_, (pss_cons (ps_set (i := 2) sc_Span_parts_of.nd rfl (Or.inl rfl) (pe_md m_S_left_of hr pass0 (pv 0) (pa_cons (pv 1) (pa_cons pe_int pa_nil))))
      (pss_one (ps_ret (pe_ifExp (pt_cmpR (op_eq) (pe_ix (ix_tup) (pv 2) pe_int (fun _ _ => rfl)) pe_int (nomark _)) (pe_ix (ix_tup) (pv 2) pe_int (fun _ _ => rfl)) pe_non)))), ?_⟩
  fail "st"
  obtain ⟨dx, as, hp, hl, hss, ok, hz⟩ := id hS
  fail "go"
  refine st_md1 hp (no_look _ _ (by decide +kernel) (by decide +kernel)) ?_
  fail "go"
  refine ⟨p, l, x, 0, us, ss, rfl, hS, hu, fun q2 H' s hq2 => ?_⟩
  have hq' : SqT K H' q2 [.int ((red ss x 0).1 : Int), .int ((red ss x 0).2 : Int)] := SqT.of hq2
  fail "go"
  refine iteD (fun c => ?_) (fun c => ?_)
  · fail "go"
    exact (q H' s).1 (by omega)
  · fail "go"
    exact (q H' s).2 (by omega)
theorem ok_lowest_bit {f : Addr} {fd : FuncData} (F : Fun K "lowest_bit" "lowest_bit" s_lowest_bit f fd)  : FnOk P w K mg base CX0 1 f fd ["number"] (sp_lowest_bit K) := by
  refine F.ok sc_lowest_bit (fun vs H Q E h => ?_) (fun cdv A outer s H vs Q E hr h => ?_)
  · obtain ⟨_, rfl, _⟩ := h
    rfl
  obtain ⟨v, rfl, hv, q⟩ := h
  refine ⟨_, (pss_one (ps_ret (pe_op (op_and) (pv 0) (pe_un un_neg (pv 0))))), ?_⟩
  fail "go"
  obtain ⟨j, e, hj⟩ := low_bit v hv
  have e2 : Builtin.bitAnd (v : Int) (-(v : Int)) = ((2 ^ j : Nat) : Int) := by
    unfold Builtin.bitAnd
    rw [decide_eq_true (show (0 : Int) ≤ (v : Int) by omega), decide_eq_false (show ¬ (0 : Int) ≤ -(v : Int) by omega)]
    show (v : Int) - _ = _
    have e3 : (Builtin.bitNot (-(v : Int))).toNat = v - 1 := by
      unfold Builtin.bitNot
      omega
    rw [e3, Int.toNat_natCast, ← e]
    have := Nat.and_le_left (n := v) (m := v - 1)
    omega
  rw [e2]; exact q j hj
theorem ok_product_of {f : Addr} {fd : FuncData} (F : Fun K "product_of" "product_of" s_product_of f fd) (c_times : Cal P w K mg base (CXE P w) 3 "times" ["one", "other"] (sp_times K C_NoProduct)) : FnOk P w K mg base (CXE P w) 4 f fd ["rows"] (sp_product_of K) := by
  refine F.okE sc_product_of (fun vs H Q E h => ?_) (fun cdv A outer s H vs Q E hr h => ?_)
  · obtain ⟨_, _, _, rfl, _⟩ := h
    rfl
  obtain ⟨l, as, us, rfl, hl, hW, hz, hcom, q⟩ := h
  refine ⟨_, (pss_cons (ps_set (i := 1) sc_product_of.nd rfl (Or.inl rfl) (pe_tup (pa_cons pe_int (pa_cons pe_int (pa_cons pe_int pa_nil)))))
      (pss_cons (ps_for PassesOwn.leaving rfl (pi_list (pv 0)) (pg_name (i := 2) sc_product_of.nd rfl (Or.inl rfl)) (pss_one (ps_set (i := 1) sc_product_of.nd rfl (Or.inl rfl) (pe_fn c_times hr passE (pa_cons (pv 1) (pa_cons (pv 2) pa_nil))))))
      (pss_one (ps_ret (pv 1))))), ?_⟩
  fail "st"
  fail "go"
  rename_i p0 hp0
  refine st_for_list (fun P h => ⟨_, rfl, h⟩) (SqL.of (same_new hp0 _ _ _ hl)) (fun i σ H' => ∃ (u : Option V) (c : Addr), σ = [some (.ref l), some (.ref c), u] ∧ Same H H' ∧ H' c = some (.tup (pr (us.take i)).V)) ⟨none, p0, rfl, same_new hp0 _, upd_same⟩ ?_ ?_ ?_
  · rintro i σ H' _ ⟨u, c, _, s, _⟩
    exact SqL.of (s _ _ hl)
  · rintro i x σ H' hx ⟨u, c, rfl, s, hc⟩
    obtain ⟨a, ha, rfl⟩ := refs_get hx
    obtain ⟨r, hr, hra⟩ := hW.get ha
    fail "go"
    refine ⟨c, a, pr (us.take i), r, rfl, SqT.of hc, SqT.of (Rt.same s hra), fun _ p hp => ?_, fun z => (z ((symp_pop _ _).1 (hcom i r hr))).elim⟩
    fail "go"
    refine ⟨_, p, rfl, s.trans (same_new hp _), ?_⟩
    rw [pr_take hr]
    exact upd_same
  · rintro σ H' ⟨u, c, rfl, s, hc⟩
    fail "go"
    rw [refs_len, hW.len, List.take_length] at hc
    exact q c H' s hc
theorem ok_signs_number {f : Addr} {fd : FuncData} (F : Fun K "signs_number" "signs_number" s_signs_number f fd) (g_XS : GC mg "XS" (.int 1)) (g_ZS : GC mg "ZS" (.int 2)) : FnOk P w K mg base CX0 1 f fd ["row", "n"] (sp_signs_number K) := by
  refine F.ok sc_signs_number (fun vs H Q E h => ?_) (fun cdv A outer s H vs Q E hr h => ?_)
  · obtain ⟨_, _, _, rfl, _⟩ := h
    rfl
  obtain ⟨a, n, r, rfl, ha, hx, hz, hn, q⟩ := h
  refine ⟨_, (pss_one (ps_ret (pe_op (op_or) (pe_ix (ix_tup) (pv 0) (pe_gc g_XS) (fun _ _ => rfl)) (pe_op (op_shl) (pe_ix (ix_tup) (pv 0) (pe_gc g_ZS) (fun _ _ => rfl)) (pv 1))))), ?_⟩
  fail "st"
  unfold Row.V at ha
  rw [← or_sn hx] at q
  fail "go"
  refine st_i ⟨by omega, by omega, by rw [Int.natAbs_natCast]; exact Nat.lt_trans hz (by decide)⟩ ?_
  rw [Int.toNat_natCast, show (r.z : Int) * 2 ^ n = ((r.z * 2 ^ n : Nat) : Int) from by push_cast; rfl]
  fail "go"
  exact q
theorem ok_widest {f : Addr} {fd : FuncData} (F : Fun K "widest" "widest" s_widest f fd) (b_max : mg "max" = none) (g_XS : GC mg "XS" (.int 1)) (g_ZS : GC mg "ZS" (.int 2)) : FnOk P w K mg base CX0 1 f fd ["rows"] (sp_widest K) := by
  refine F.ok sc_widest (fun vs H Q E h => ?_) (fun cdv A outer s H vs Q E hr h => ?_)
  · obtain ⟨_, _, _, rfl, _⟩ := h
    rfl
  obtain ⟨l, as, rs, rfl, hl, hW, hz, h0, hok, q⟩ := h
  refine ⟨_, (pss_one (ps_ret (pe_callB (call_maxL rfl) rfl b_max boot_max (pa_cons (pe_comp (sc := defScope s_widest) rfl ⟨rfl, by decide +kernel, rfl, by decide +kernel, by decide +kernel, by decide +kernel, by decide +kernel⟩ (by show ("row" : Str) ∉ (["rows"] : List Str); decide +kernel) (by show (".0" : Str) ∉ (["rows"] : List Str); decide +kernel) sc_widest.nd rfl (pi_list (pv 0)) (fun _ _ _ _ => pif_nil) (fun _ _ _ _ => (pe_bm0K (K := K) rfl PySem.F.plainAttrs_int PySem.F.slot_int_bit_length PySem.F.type_int_bit_length mt_bit_length (pe_callB (call_max2 rfl) rfl b_max boot_max (pa_cons (pe_ix (ix_tupK (K := K) rfl) (pv 0) (pe_gc g_XS) (fun _ _ => rfl)) (pa_cons (pe_ix (ix_tupK (K := K) rfl) (pv 0) (pe_gc g_ZS) (fun _ _ => rfl)) pa_nil)))))) pa_nil)))), ?_⟩
  fail "st"
  fail "go"
  refine st_comp_lst (fun P h => ⟨_, rfl, h⟩) (SqL.of hl) (fun i ys H' => H' = H ∧ ys = vn ((rs.take i).map fun r => Builtin.Int.intBits ((max r.x r.z : Nat) : Int))) (by rw [refs_len]; omega) ⟨rfl, rfl⟩ ?_ ?_ ?_ ?_
  · rintro i ys H' ⟨_, rfl⟩
    rw [vn_len, List.length_map, List.length_take]
    omega
  · rintro i ys H' ⟨rfl, _⟩
    exact SqL.of hl
  · rintro i x ys H' hx ⟨rfl, rfl⟩
    obtain ⟨a, ha, rfl⟩ := refs_get hx
    obtain ⟨r, hr, hra⟩ := hW.get ha
    have hra' : SqT K H' a [.int (r.m : Nat), .int (r.x : Nat), .int (r.z : Nat)] := SqT.of hra
    fail "go"
    refine ⟨(r.x : Int), (r.z : Int), rfl, ?_⟩
    have em : (if (r.z : Int) > (r.x : Int) then (r.z : Int) else (r.x : Int)) = ((max r.x r.z : Nat) : Int) := by
      split <;> omega
    rw [em]
    fail "go"
    refine ⟨rfl, ?_⟩
    rw [take_succ_of hr, List.map_append, ← vn_app]
    rfl
  · rintro ys H' ⟨rfl, rfl⟩ p hp
    rw [refs_len, hW.len, List.take_length]
    fail "go"
    refine st_bestL (ns := (rs.map fun r => Builtin.Int.intBits ((max r.x r.z : Nat) : Int)).map fun k : Nat => (k : Int)) (by rw [← vn_ints]; exact SqL.of upd_same) (by rw [List.length_map, List.length_map, ← hW.len]; exact h0) fun M hM hall => ?_
    obtain ⟨k, hk, rfl⟩ := List.mem_map.1 hM
    obtain ⟨r0, hr0, rfl⟩ := List.mem_map.1 hk
    refine q _ _ (same_new hp _) (bits_le (Nat.max_lt.2 ⟨(hok r0 hr0).x, (hok r0 hr0).z⟩)) fun r hr => ?_
    have h1 := hall _ (List.mem_map.2 ⟨_, List.mem_map.2 ⟨r, hr, rfl⟩, rfl⟩)
    have h2 := bits_lt (max r.x r.z)
    have h3 := Nat.pow_le_pow_right (show 0 < 2 by decide) (show Builtin.Int.intBits ((max r.x r.z : Nat) : Int) ≤ Builtin.Int.intBits ((max r0.x r0.z : Nat) : Int) by omega)
    omega
theorem ok_made_of {f : Addr} {fd : FuncData} (F : Fun K "made_of" "made_of" s_made_of f fd) (m_S_parts_of : ∀ d : SK, MCal P w K mg base CX0 2 (CD_S d) "parts_of" ["self", "number"] (sp_S_parts_of K CD_S d)) (k_Span : KCal P w K mg base CX0 3 "Span" (CD_S .span) ["self", "numbers"] (sp_Span___init__ K CD_S)) (T_S : Txt_S K CD_S) (c_widest : Cal P w K mg base CX0 1 "widest" ["rows"] (sp_widest K)) (c_places : Cal P w K mg base CX0 2 "places" ["number"] (sp_places K)) (c_product_of : Cal P w K mg base (CXE P w) 4 "product_of" ["rows"] (sp_product_of K)) (c_signs_number : Cal P w K mg base CX0 1 "signs_number" ["row", "n"] (sp_signs_number K)) (g_MINUS : GC mg "MINUS" (.int 0)) : FnOk P w K mg base (CXE P w) 5 f fd ["rows", "row"] (sp_made_of K) := by
  refine F.okE sc_made_of (fun vs H Q E h => ?_) (fun cdv A outer s H vs Q E hr h => ?_)
  · obtain ⟨_, _, _, _, _, rfl, _⟩ := h
    rfl
  obtain ⟨l, a, as, rs, o, rfl, hl, hW, hz, ha, hok, oko, hcom, q⟩ := h
  refine ⟨_, (pss_cons (ps_set (i := 2) sc_made_of.nd rfl (Or.inr rfl) (pe_fn c_widest hr pass0 (pa_cons (pe_op (op_cat) (pv 0) (pe_lst (pa_cons (pv 1) pa_nil))) pa_nil)))
      (pss_cons (ps_set (i := 3) sc_made_of.nd rfl (Or.inl rfl) (pe_md m_S_parts_of hr pass0 (pe_new k_Span hr pass0 (pa_cons (pe_comp (sc := defScope s_made_of) rfl ⟨rfl, by decide +kernel, rfl, by decide +kernel, by decide +kernel, by decide +kernel, by decide +kernel⟩ (by show ("other" : Str) ∉ (["rows", "row", "width", "parts", "numbers", "product"] : List Str); decide +kernel) (by show (".0" : Str) ∉ (["rows", "row", "width", "parts", "numbers", "product"] : List Str); decide +kernel) sc_made_of.nd rfl (pi_list (pv 0)) (fun _ _ _ _ => pif_nil) (fun _ _ _ _ => (pe_fn c_signs_number hr pass0 (pa_cons (pv 0) (pa_cons (pv 3) pa_nil))))) pa_nil)) (pa_cons (pe_fn c_signs_number hr pass0 (pa_cons (pv 1) (pa_cons (pv 2) pa_nil))) pa_nil)))
      (pss_cons (ps_if (pt_cmpR (op_isN) (pv 3) pe_non (nomark _)) (pss_one (ps_ret pe_non)) pss_nil)
      (pss_cons (ps_set (i := 4) sc_made_of.nd rfl (Or.inl rfl) (pe_fn c_places hr pass0 (pa_cons (pv 3) pa_nil)))
      (pss_cons (ps_set (i := 5) sc_made_of.nd rfl (Or.inl rfl) (pe_fn c_product_of hr passE (pa_cons (pe_comp (sc := defScope s_made_of) rfl ⟨rfl, by decide +kernel, rfl, by decide +kernel, by decide +kernel, by decide +kernel, by decide +kernel⟩ (by show ("k" : Str) ∉ (["rows", "row", "width", "parts", "numbers", "product"] : List Str); decide +kernel) (by show (".0" : Str) ∉ (["rows", "row", "width", "parts", "numbers", "product"] : List Str); decide +kernel) sc_made_of.nd rfl (pi_list (pv 4)) (fun _ _ _ _ => pif_nil) (fun _ _ _ _ => (pe_ix (ix_listK (K := K) rfl) (pv 1) (pv 0) (fun _ _ => rfl)))) pa_nil)))
      (pss_one (ps_ret (pe_tup (pa_cons (pv 4) (pa_cons (pe_op (op_xor) (pe_ix (ix_tup) (pv 5) (pe_gc g_MINUS) (fun _ _ => rfl)) (pe_ix (ix_tup) (pv 1) (pe_gc g_MINUS) (fun _ _ => rfl))) pa_nil)))))))))), ?_⟩
  fail "st"
  fail "go"
  rename_i p1 hp1 p2 hp2
  have S2 := (same_new hp1 (.lst [.ref a])).trans (same_new hp2 (.lst (refs as ++ [.ref a])))
  have f2 : (upd (upd H p1 (.lst [.ref a])) p2 (.lst (refs as ++ [.ref a]))) p2 = some (.lst (refs (as ++ [a]))) := by rw [upd_same, refs_snoc]
  generalize upd (upd H p1 (.lst [.ref a])) p2 (.lst (refs as ++ [.ref a])) = G2 at S2 f2 ⊢
  have hW2 : All2 (Rt K G2) as rs := hW.mono fun a d x => Rt.same S2 x
  have lrs : as.length = rs.length := hW.len
  refine ⟨p2, as ++ [a], rs ++ [o], rfl, f2, hW2.snoc (S2 _ _ ha), by rw [List.length_append]; show _ + 1 ≤ _; omega, by rw [List.length_append]; show 0 < _ + 1; omega, fun r hr => ?_, fun wd H3 s3 hw hwx => ?_⟩
  · rcases List.mem_append.1 hr with hr | hr
    · exact hok r hr
    · rw [List.mem_singleton.1 hr]; exact oko
  have hwr : ∀ r ∈ rs, r.x < 2 ^ wd ∧ r.z < 2 ^ wd := fun r hr => hwx r (List.mem_append_left _ hr)
  have hwo := hwx o (by simp)
  have S3 := S2.trans s3
  have l3 := S3 _ _ hl
  have W3 : All2 (Rt K H3) as rs := hW.mono fun a d x => Rt.same S3 x
  fail "go"
  refine st_comp_lst (fun P h => ⟨_, rfl, h⟩) (SqL.of l3) (fun i ys H' => H' = H3 ∧ ys = vn ((rs.take i).map fun r => r.x ^^^ r.z * 2 ^ wd)) (by rw [refs_len]; omega) ⟨rfl, rfl⟩ ?_ ?_ ?_ ?_
  · rintro i ys H' ⟨_, rfl⟩
    rw [vn_len, List.length_map, List.length_take]
    omega
  · rintro i ys H' ⟨rfl, _⟩
    exact SqL.of l3
  · rintro i x ys H' hx ⟨rfl, rfl⟩
    obtain ⟨b, hb, rfl⟩ := refs_get hx
    obtain ⟨r, hr, hrb⟩ := W3.get hb
    have hrm := List.mem_of_getElem? hr
    fail "go"
    refine ⟨b, wd, r, rfl, SqT.of hrb, (hwr r hrm).1, (hok r hrm).z, hw, rfl, ?_⟩
    rw [take_succ_of hr, List.map_append, ← vn_app]
    rfl
  · rintro ys H' ⟨rfl, rfl⟩ p4 hp4
    rw [refs_len, hW.len, List.take_length]
    generalize hus : (rs.map fun r => r.x ^^^ r.z * 2 ^ wd) = us
    have lus : us.length = rs.length := by rw [← hus, List.length_map]
    have S4 := S3.trans (same_new hp4 (.lst (vn us)))
    have f4 : (upd H' p4 (.lst (vn us))) p4 = some (.lst (vn us)) := upd_same
    generalize upd H' p4 (.lst (vn us)) = H4 at S4 f4 ⊢
    fail "go"
    intro xo dx nx ndx nxd
    refine ⟨xo, p4, dx, us, rfl, upd_same, ?_, by omega, fun H5 l5 ss oth hl5 hS => ⟨rfl, ?_⟩⟩
    · rw [upd_ne (ne_of_none f4 nx), upd_ne (ne_of_none f4 ndx)]
      exact f4
    have S5 : Same H4 H5 := fun c ob e => oth c ob (ne_of_none e nx) (by rw [upd_ne (ne_of_none e nx), upd_ne (ne_of_none e ndx)]; exact e)
    have S05 := S4.trans S5
    obtain ⟨dx5, as5, hp5, _, _, okS, _⟩ := id hS
    refine st_md1 hp5 (no_look _ _ (by decide +kernel) (by decide +kernel)) ?_
    fail "go"
    refine ⟨a, wd, o, rfl, SqT.of (S05 _ _ ha), hwo.1, oko.z, hw, ?_⟩
    fail "go"
    refine ⟨xo, l5, o.x ^^^ o.z * 2 ^ wd, us, ss, rfl, hS, by omega, fun H6 s6 => ⟨fun h0 => ?_, fun hne => ?_⟩⟩
    · obtain ⟨g1, g2, _⟩ := okS.left (o.x ^^^ o.z * 2 ^ wd)
      have hsel := g2 h0
      generalize (red ss (o.x ^^^ o.z * 2 ^ wd) 0).2 = m at g1 hsel ⊢
      have S6 := S05.trans s6
      rw [lus] at g1
      rw [← hus] at hsel
      have hL : Lsel rs m o := (lsel_sn (fun s hs => (hwr s hs).1) hwo.1 m).1 hsel
      have hpl : pls m = plc m rs.length := (plc_more (bits_lt m) (bits_le g1)).symm
      have W6 : All2 (Rt K H6) as rs := hW.mono fun a d x => Rt.same S6 x
      have l6 : SqL K H6 l (refs as) := SqL.of (S6 _ _ hl)
      fail "go"
      refine ⟨rfl, _, rfl, iteD (fun c => by cases c) (fun _ => ?_)⟩
      fail "go"
      refine ⟨m, rfl, Nat.lt_of_lt_of_le g1 (Nat.pow_le_pow_right (by decide) (by omega)), fun p7 hp7 => ?_⟩
      rw [hpl]
      have S7 := S6.trans (same_new hp7 (.lst (vn (plc m rs.length))))
      have f7 : (upd H6 p7 (.lst (vn (plc m rs.length)))) p7 = some (.lst (vn (plc m rs.length))) := upd_same
      generalize upd H6 p7 (.lst (vn (plc m rs.length))) = H7 at S7 f7 ⊢
      have kl : ∀ k ∈ plc m rs.length, k < rs.length := plc_lt m rs.length
      have lk : (plc m rs.length).length ≤ 40 := by rw [plc_len]; exact Nat.le_trans (cnt_le _ _) (by omega)
      have l7 : SqL K H7 l (refs as) := SqL.of (S7 _ _ hl)
      have W7 : All2 (Rt K H7) as rs := hW.mono fun a d x => Rt.same S7 x
      generalize hks : plc m rs.length = ks at f7 kl lk ⊢
      fail "go"
      refine st_comp_lst (fun P h => ⟨_, rfl, h⟩) (SqL.of f7) (fun i ys H' => H' = H7 ∧ ∃ bs, ys = refs bs ∧ All2 (Rt K H7) bs (pk rs (ks.take i))) (by rw [vn_len]; omega) ⟨rfl, [], rfl, .nil⟩ ?_ ?_ ?_ ?_
      · rintro i ys H' ⟨_, bs, rfl, e⟩
        rw [refs_len, e.len]
        unfold pk
        rw [List.length_map, List.length_take]
        omega
      · rintro i ys H' ⟨rfl, _⟩
        exact SqL.of f7
      · rintro i x ys H' hx ⟨rfl, bs, rfl, e⟩
        obtain ⟨k, rfl, hk⟩ := vn_at hx
        have hkl := kl k (List.mem_of_getElem? hk)
        have hkr : rs[k]? = some rs[k] := List.getElem?_eq_getElem hkl
        obtain ⟨b, hb, hbr⟩ := W7.get' hkr
        fail "go"
        refine st_ixL l7 (atI_nat (refs_at hb)) ?_
        refine ⟨rfl, bs ++ [b], refs_snoc _ _, ?_⟩
        have e2 : pk rs (ks.take (i + 1)) = pk rs (ks.take i) ++ [rs[k]] := by
          rw [take_succ_of hk, pk_app]
          show _ ++ [rs.getD k ⟨0, 0, 0⟩] = _
          rw [List.getD_eq_getElem?_getD, hkr]
          rfl
        rw [e2]
        exact e.snoc hbr
      · rintro ys H' ⟨rfl, bs, rfl, e⟩ p8 hp8
        rw [vn_len, List.take_length] at e
        have S8 := S7.trans (same_new hp8 (.lst (refs bs)))
        have f8 : (upd H' p8 (.lst (refs bs))) p8 = some (.lst (refs bs)) := upd_same
        have f78 := same_new hp8 (.lst (refs bs)) _ _ f7
        have e8 := e.mono fun a d (x : Rt K H' a d) => Rt.same (same_new hp8 (.lst (refs bs))) x
        generalize upd H' p8 (.lst (refs bs)) = H8 at S8 f8 f78 e8 ⊢
        fail "go"
        have pkm := pk_mem kl
        refine ⟨p8, bs, pk rs ks, rfl, f8, e8, by rw [e.len]; unfold pk; rw [List.length_map]; omega, fun i r hr => pr_com' hcom (fun u hu => pkm u (List.mem_of_mem_take hu)) (pkm r (List.mem_of_getElem? hr)), fun p9 H9 s9 hp9 => ?_⟩
        have S9 := S8.trans s9
        have ha9 : SqT K H9 a [.int (o.m : Nat), .int (o.x : Nat), .int (o.z : Nat)] := SqT.of (S9 _ _ ha)
        have hp9' : SqT K H9 p9 [.int ((pr (pk rs ks)).m : Nat), .int ((pr (pk rs ks)).x : Nat), .int ((pr (pk rs ks)).z : Nat)] := SqT.of hp9
        fail "go"
        rename_i p10 hp10
        have S10 := S9.trans (same_new hp10 (.tup [.ref p7, .int (((pr (pk rs ks)).m ^^^ o.m : Nat) : Int)]))
        refine (q _ S10).2 m p10 p7 g1 hL ?_ ?_
        · rw [hks]
          exact same_new hp10 _ _ _ (s9 _ _ f78)
        · rw [hks]
          exact upd_same
    · obtain ⟨_, _, g3⟩ := okS.left (o.x ^^^ o.z * 2 ^ wd)
      have hno := g3 hne
      fail "go"
      refine ⟨rfl, _, rfl, iteD (fun _ => ?_) (fun c => (c rfl).elim)⟩
      fail "go"
      refine (q _ (S05.trans s6)).1 fun m hL => hno m ?_
      rw [← hus]
      exact (lsel_sn (fun s hs => (hwr s hs).1) hwo.1 m).2 hL
theorem ok__law_cell_at {f : Addr} {fd : FuncData} (F : Fun K "_law_cell_at" "_law_cell_at" s__law_cell_at f fd) (b_len : mg "len" = none) : FnOk P w K mg base CX0 1 f fd ["_law_script", "_law_k"] (sp__law_cell_at K) := by
  refine F.ok sc__law_cell_at (fun vs H Q E h => ?_) (fun cdv A outer s H vs Q E hr h => ?_)
  · obtain ⟨_, _, _, rfl, _⟩ := h
    rfl
  obtain ⟨a, k, ns, rfl, ha, q⟩ := h
  refine ⟨_, (pss_cons (ps_if (pt_cmpR (op_lt) (pv 1) (pe_callB (call_lenQ) rfl b_len PySem.boot_len (pa_cons (pv 0) pa_nil)) (nomark _)) (pss_one (ps_ret (pe_ix (ix_list) (pv 0) (pv 1) (fun _ _ => rfl)))) pss_nil)
      (pss_one (ps_ret pe_int))), ?_⟩
  fail "st"
  fail "go"
  refine iteD (fun c => ?_) (fun c => ?_)
  · rw [List.length_map] at c
    obtain ⟨x, ex⟩ := at_i (cs := ns) (i := k) (by omega)
    fail "go"
    exact q x
  · fail "go"
    exact q 0
theorem ok__law_mixed {f : Addr} {fd : FuncData} (F : Fun K "_law_mixed" "_law_mixed" s__law_mixed f fd)  : FnOk P w K mg base CX0 1 f fd ["_law_draw", "_law_k"] (sp__law_mixed K) := by
  refine F.ok sc__law_mixed (fun vs H Q E h => ?_) (fun cdv A outer s H vs Q E hr h => ?_)
  · obtain ⟨_, _, rfl, _⟩ := h
    rfl
  obtain ⟨c, k, rfl, hk, q⟩ := h
  refine ⟨_, (pss_cons (ps_set (i := 2) sc__law_mixed.nd rfl (Or.inl rfl) (pe_op (op_mod) (pe_op (op_mulW) (pe_op (op_add) (pe_op (op_add) (pe_op (op_mod) (pv 0) pe_int) (pe_op (op_mulW) pe_int (pv 1))) pe_int) pe_int) pe_int))
      (pss_one (ps_ret (pe_op (op_mod) (pe_op (op_mulW) (pv 2) (pe_op (op_add) (pe_op (op_fdivW) (pv 2) pe_int) pe_int)) pe_int)))), ?_⟩
  fail "go"
  refine st_i ⟨by omega, by omega⟩ ?_
  fail "go"
  refine st_i ⟨by omega, by omega⟩ ?_
  fail "go"
  refine st_i ⟨by omega, by omega⟩ ?_
  fail "go"
  have key : ∀ x : Int, Q (.int (x % 2147483629)) H := fun x => by
    obtain ⟨m, e, hm⟩ := emod_nat x (n := 2147483629) (by decide)
    have e2 : x % 2147483629 = (m : Int) := e
    rw [e2]
    exact q m hm
  first
  | exact key _
  | (rename_i m em hm; exact q m hm)
theorem ok_weight_of {f : Addr} {fd : FuncData} (F : Fun K "weight_of" "weight_of" s_weight_of f fd) (c_ones : Cal P w K mg base CX0 1 "ones" ["number"] (sp_ones K)) (g_XS : GC mg "XS" (.int 1)) (g_ZS : GC mg "ZS" (.int 2)) : FnOk P w K mg base CX0 2 f fd ["row"] (sp_weight_of K) := by
  refine F.ok sc_weight_of (fun vs H Q E h => ?_) (fun cdv A outer s H vs Q E hr h => ?_)
  · obtain ⟨_, _, rfl, _⟩ := h
    rfl
  obtain ⟨a, r, rfl, ha, q⟩ := h
  refine ⟨_, (pss_one (ps_ret (pe_fn c_ones hr pass0 (pa_cons (pe_op (op_or) (pe_ix (ix_tup) (pv 0) (pe_gc g_XS) (fun _ _ => rfl)) (pe_ix (ix_tup) (pv 0) (pe_gc g_ZS) (fun _ _ => rfl))) pa_nil)))), ?_⟩
  fail "st"
  unfold Row.V at ha
  fail "go"
  exact ⟨_, rfl, q⟩
theorem ok_is_whole_number {f : Addr} {fd : FuncData} (F : Fun K "is_whole_number" "is_whole_number" s_is_whole_number f fd) (b_isinstance : mg "isinstance" = none) (b_int : mg "int" = none) (b_bool : mg "bool" = none) : FnOk P w K mg base CX0 1 f fd ["thing"] (sp_is_whole_number K) := by
  refine F.ok sc_is_whole_number (fun vs H Q E h => ?_) (fun cdv A outer s H vs Q E hr h => ?_)
  · obtain ⟨_, _, rfl, _⟩ := h
    rfl
  obtain ⟨v, b, rfl, ⟨t, b1, b2, ty, e1, e2, rfl⟩, q⟩ := h
  refine ⟨_, (pss_one (ps_ret (pe_and (pe_isB rfl b_isinstance (pv 0) b_int boot_int) (pe_one (pe_not (pe_isB rfl b_isinstance (pv 0) b_bool boot_bool)))))), ?_⟩
  fail "st"
  fail "go"
  refine st_isi ty e1 ?_
  cases b1 with
  | false =>
    fail "go"
    exact q
  | true =>
    fail "go"
    refine st_isi ty e2 ?_
    fail "go"
    exact q
theorem ok_fits {f : Addr} {fd : FuncData} (F : Fun K "fits" "fits" s_fits f fd)  : FnOk P w K mg base CX0 1 f fd ["number", "n"] (sp_fits K) := by
  refine F.ok sc_fits (fun vs H Q E h => ?_) (fun cdv A outer s H vs Q E hr h => ?_)
  · obtain ⟨_, _, rfl, _⟩ := h
    rfl
  obtain ⟨x, n, rfl, hn, q⟩ := h
  refine ⟨_, (pss_one (ps_ret (pe_and (pe_cmpR (op_ge) (pv 0) pe_int (nomark _)) (pe_one (pe_cmpR (op_lt) (pv 0) (pe_op (op_shl) pe_int (pv 1)) (nomark _)))))), ?_⟩
  fail "go"
  refine iteD (fun c => ?_) (fun c => ?_)
  · fail "go"
    have e : decide (0 ≤ x ∧ x < ((2 ^ n : Nat) : Int)) = decide (x < ((2 ^ n : Nat) : Int)) := by
      by_cases h : x < ((2 ^ n : Nat) : Int)
      · rw [decide_eq_true h, decide_eq_true ⟨c, h⟩]
      · rw [decide_eq_false h, decide_eq_false fun z => h z.2]
    rw [e] at q
    exact q
  · rw [decide_eq_false fun z => c z.1] at q
    exact q
theorem ok_checked_row {f : Addr} {fd : FuncData} (F : Fun K "checked_row" "checked_row" s_checked_row f fd) (c_NoRow : ExcC K mg "NoRow" C_NoRow) (b_all : mg "all" = none) (b_isinstance : mg "isinstance" = none) (b_tuple : mg "tuple" = none) (b_len : mg "len" = none) (g_MINUS : GC mg "MINUS" (.int 0)) (c_fits : Cal P w K mg base CX0 1 "fits" ["number", "n"] (sp_fits K)) (c_is_whole_number : Cal P w K mg base CX0 1 "is_whole_number" ["thing"] (sp_is_whole_number K)) (g_XS : GC mg "XS" (.int 1)) (g_ZS : GC mg "ZS" (.int 2)) : FnOk P w K mg base (CXE P w) 2 f fd ["thing", "n"] (sp_checked_row K) := by
  refine F.okE sc_checked_row (fun vs H Q E h => ?_) (fun cdv A outer s H vs Q E hr h => ?_)
  · obtain ⟨_, _, _, rfl, _⟩ := h
    rfl
  obtain ⟨a, n, r, rfl, ha, ok, hn, q⟩ := h
  refine ⟨_, (pss_cons (ps_if (PW.pt (pw_or (pt_not (pt_val (pe_isB rfl b_isinstance (pv 0) b_tuple boot_tuple))) (pw_or1 (pt_cmpR (op_ne) (pe_callB (call_lenQ) rfl b_len PySem.boot_len (pa_cons (pv 0) pa_nil)) pe_int (nomark _))))) (pss_one (ps_raise c_NoRow raisesE (pa_cons pe_str pa_nil) rfl)) pss_nil)
      (pss_cons (ps_if (pt_not (pt_val (pe_callB (call_allB rfl) rfl b_all boot_all (pa_cons (pe_comp (sc := defScope s_checked_row) rfl ⟨rfl, by decide +kernel, rfl, by decide +kernel, by decide +kernel, by decide +kernel, by decide +kernel⟩ (by show ("part" : Str) ∉ (["thing", "n"] : List Str); decide +kernel) (by show (".0" : Str) ∉ (["thing", "n"] : List Str); decide +kernel) sc_checked_row.nd rfl (pi_tup (pv 0)) (fun _ _ _ _ => pif_nil) (fun _ _ _ _ => (pe_fn c_is_whole_number hr pass0 (pa_cons (pv 0) pa_nil)))) pa_nil)))) (pss_one (ps_raise c_NoRow raisesE (pa_cons pe_str pa_nil) rfl)) pss_nil)
      (pss_cons (ps_if (PW.pt (pw_and (pt_cmpR (op_ne) (pe_ix (ix_tup) (pv 0) (pe_gc g_MINUS) (fun _ _ => rfl)) pe_int (nomark _)) (pw_and1 (pt_cmpR (op_ne) (pe_ix (ix_tup) (pv 0) (pe_gc g_MINUS) (fun _ _ => rfl)) pe_int (nomark _))))) (pss_one (ps_raise c_NoRow raisesE (pa_cons pe_str pa_nil) rfl)) pss_nil)
      (pss_cons (ps_if (PW.pt (pw_or (pt_not (pt_val (pe_fn c_fits hr pass0 (pa_cons (pe_ix (ix_tup) (pv 0) (pe_gc g_XS) (fun _ _ => rfl)) (pa_cons (pv 1) pa_nil))))) (pw_or1 (pt_not (pt_val (pe_fn c_fits hr pass0 (pa_cons (pe_ix (ix_tup) (pv 0) (pe_gc g_ZS) (fun _ _ => rfl)) (pa_cons (pv 1) pa_nil)))))))) (pss_one (ps_raise c_NoRow raisesE (pa_cons pe_str pa_nil) rfl)) pss_nil)
      (pss_one (ps_ret (pv 0))))))), ?_⟩
  fail "st"
  have ha' := SqT.of (K := K) ha
  unfold Row.V at ha'
  have ha2 := ha
  unfold Row.V at ha2
  fail "go"
  refine iteN (fun c => (c rfl).elim) (fun _ => ?_)
  fail "go"
  refine st_comp_tup (fun P h => ⟨_, rfl, h⟩) ha' (fun i ys H' => H' = H ∧ ys = ((r.V.take i).map wnB).map V.bl) (by show (3 : Nat) ≤ 1000; decide) ⟨rfl, rfl⟩ ?_ ?_ ?_ ?_
  · rintro i ys H' ⟨rfl, rfl⟩
    rw [List.length_map, List.length_map, List.length_take]
    omega
  · rintro i ys H' ⟨rfl, rfl⟩
    exact ha'
  · rintro i x ys H' hx ⟨rfl, rfl⟩
    fail "go"
    refine ⟨x, wnB x, rfl, WN.flat K _ (okV_flat (all_get (row_okV r) hx)), rfl, ?_⟩
    rw [take_succ_of (xs := r.V) hx, List.map_append, List.map_append]
    rfl
  · rintro ys H' ⟨rfl, rfl⟩ p2 hp2
    fail "go"
    refine st_all (bs := (r.V.take 3).map wnB) (SqL.of upd_same) ?_
    rw [show ((r.V.take 3).map wnB).all id = true from rfl]
    have S1 := same_new hp2 (.lst (((r.V.take 3).map wnB).map V.bl))
    have ha3 := S1.tup ha'
    have om := ok.m
    have ox := ok.x
    have oz := ok.z
    fail "go"
    by_cases hm0 : (r.m : Int) = 0
    · rw [decide_eq_true hm0]
      fail "go"
      refine ⟨(r.x : Int), n, rfl, by omega, ?_⟩
      fail "go"
      refine iteN (fun c => (c ⟨by omega, Int.ofNat_lt.mpr ox⟩).elim) (fun _ => ?_)
      fail "go"
      refine ⟨(r.z : Int), n, rfl, by omega, ?_⟩
      fail "go"
      refine iteN (fun c => (c ⟨by omega, Int.ofNat_lt.mpr oz⟩).elim) (fun _ => ?_)
      fail "go"
      exact q _ S1
    · rw [decide_eq_false hm0]
      fail "go"
      have hm1 : (r.m : Int) = 1 := by omega
      rw [decide_eq_true hm1]
      fail "go"
      refine ⟨(r.x : Int), n, rfl, by omega, ?_⟩
      fail "go"
      refine iteN (fun c => (c ⟨by omega, Int.ofNat_lt.mpr ox⟩).elim) (fun _ => ?_)
      fail "go"
      refine ⟨(r.z : Int), n, rfl, by omega, ?_⟩
      fail "go"
      refine iteN (fun c => (c ⟨by omega, Int.ofNat_lt.mpr oz⟩).elim) (fun _ => ?_)
      fail "go"
      exact q _ S1
theorem ok_check_look {f : Addr} {fd : FuncData} (F : Fun K "check_look" "check_look" s_check_look f fd) (c_checked_row : Cal P w K mg base (CXE P w) 2 "checked_row" ["thing", "n"] (sp_checked_row K)) (c_NoLook : ExcC K mg "NoLook" C_NoLook) (g_MINUS : GC mg "MINUS" (.int 0)) (c_weight_of : Cal P w K mg base CX0 2 "weight_of" ["row"] (sp_weight_of K)) : FnOk P w K mg base (CXE P w) 3 f fd ["row", "n"] (sp_check_look K) := by
  refine F.okE sc_check_look (fun vs H Q E h => ?_) (fun cdv A outer s H vs Q E hr h => ?_)
  · obtain ⟨_, _, _, rfl, _⟩ := h
    rfl
  obtain ⟨a, n, o, rfl, ha, lk, q⟩ := h
  refine ⟨_, (pss_cons (ps_expr (pe_fn c_checked_row hr passE (pa_cons (pv 0) (pa_cons (pv 1) pa_nil))))
      (pss_one (ps_if (PW.pt (pw_or (pt_cmpR (op_eq) (pe_ix (ix_tup) (pv 0) (pe_gc g_MINUS) (fun _ _ => rfl)) pe_int (nomark _)) (pw_or1 (pt_cmpR (op_eq) (pe_fn c_weight_of hr pass0 (pa_cons (pv 0) pa_nil)) pe_int (nomark _))))) (pss_one (ps_raise c_NoLook raisesE (pa_cons pe_str pa_nil) rfl)) pss_nil))), ?_⟩
  fail "st"
  fail "go"
  refine ⟨a, n, o, rfl, ha, lk.ok, lk.n, fun H1 S1 => ?_⟩
  have ha1 := SqT.of (K := K) (S1 _ _ ha)
  have ha2 := ha1
  unfold Row.V at ha2
  have hm := lk.m
  fail "go"
  refine iteD (fun c => by omega) (fun _ => ?_)
  fail "go"
  refine ⟨a, o, rfl, ha1, ?_⟩
  fail "go"
  refine iteD (fun c => (pop_pos (or_ne lk.ne) (by omega)).elim) (fun _ => ?_)
  fail "go"
  exact q _ S1
theorem ok_value_drawn {f : Addr} {fd : FuncData} (F : Fun K "value_drawn" "value_drawn" s_value_drawn f fd) (h_lam : LCal P w K mg base 2 (LD CD_R)) : FnOk P w K mg base CX0 3 f fd ["draw"] (sp_value_drawn K CD_R) := by
  refine F.ok sc_value_drawn (fun vs H Q E h => ?_) (fun cdv A outer s H vs Q E hr h => ?_)
  · obtain ⟨_, rfl, _⟩ := h
    rfl
  obtain ⟨v, rfl, h⟩ := h
  refine ⟨_, (pss_one (ps_ret (pe_ifExp (pt_cmpR (op_isN) (pv 0) pe_non (nomark _)) pe_int (pe_op (op_and) (pe_callE h_lam hr (pv 0)) pe_int)))), ?_⟩
  fail "go"
  rcases h with ⟨rfl, q⟩ | ⟨f, d, lb, bs, k, rfl, hf, hd, q⟩
  · refine isN (b := true) nn_t ?_
    fail "go"
    exact q
  · refine isN (b := false) (nn_f _) ?_
    fail "go"
    refine st_callE ?_
    fail "go"
    refine ⟨f, rfl, d, lb, bs, k, rfl, hf, hd, fun H' hB hd' => ?_⟩
    have hb := hd.bit
    have q9 := q H' hB hd'
    generalize bs.getD k 0 = b at hb q9 ⊢
    fail "go"
    first
    | (rw [and1_int, show ((b : Nat) : Int) % 2 = (b : Int) by omega]; exact q9)
    | (have e : (bI (b.testBit 0) : Int) = (b : Int) := by
         rcases Nat.le_one_iff_eq_zero_or_eq_one.1 hb with rfl | rfl <;> rfl
       rw [e]; exact q9)
theorem ok_Draws___init__ {f : Addr} {fd : FuncData} (F : Fun K "__init__" "Draws.__init__" s_Draws___init__ f fd) (T_R : Txt_R K CD_R) : FnOk P w K mg base CX0 1 f fd ["self", "numbers"] (sp_Draws___init__ K CD_R) := by
  refine F.ok sc_Draws___init__ (fun vs H Q E h => ?_) (fun cdv A outer s H vs Q E hr h => ?_)
  · obtain ⟨_, _, _, _, rfl, _⟩ := h
    rfl
  obtain ⟨p, l, dx, ns, rfl, hp, hl, hn, q⟩ := h
  refine ⟨_, (pss_cons (ps_fld (pv 0) (pe_comp (sc := defScope s_Draws___init__) rfl ⟨rfl, by decide +kernel, rfl, by decide +kernel, by decide +kernel, by decide +kernel, by decide +kernel⟩ (by show ("number" : Str) ∉ (["self", "numbers"] : List Str); decide +kernel) (by show (".0" : Str) ∉ (["self", "numbers"] : List Str); decide +kernel) sc_Draws___init__.nd rfl (pi_list (pv 1)) (fun _ _ _ _ => pif_nil) (fun _ _ _ _ => (pe_op (op_and) (pv 0) pe_int))) rfl)
      (pss_one (ps_fld (pv 0) pe_int rfl))), ?_⟩
  fail "st"
  fail "go"
  refine st_comp_lst (fun P h => ⟨_, rfl, h⟩) hl (fun i ys H' => H' = H ∧ ys = vn ((ns.take i).map fun i => (i % 2).toNat)) (by rw [List.length_map]; omega) ⟨rfl, rfl⟩ ?_ ?_ ?_ ?_
  · rintro i ys H' ⟨_, rfl⟩
    rw [vn_len, List.length_map, List.length_take]
    omega
  · rintro i ys H' ⟨rfl, _⟩
    exact hl
  · rintro i x ys H' hx ⟨rfl, rfl⟩
    obtain ⟨c, rfl⟩ := int_get hx
    have hc : ns[i]? = some c := by
      rw [List.getElem?_map] at hx
      cases e : ns[i]? with
      | none => rw [e] at hx; cases hx
      | some z => rw [e] at hx; cases hx; rfl
    fail "go"
    refine ⟨rfl, ?_⟩
    rw [and1_int, take_succ_of hc, List.map_append, ← vn_app]
    have e : ((c % 2).toNat : Int) = c % 2 := by omega
    show _ ++ [V.int (c % 2)] = _ ++ [V.int (((c % 2).toNat : Nat) : Int)]
    rw [e]
  · rintro ys H' ⟨rfl, rfl⟩ p1 hp1
    rw [List.length_map, List.take_length]
    have k1 := same_new hp1 (.lst (vn (ns.map fun i => (i % 2).toNat))) _ _ hp
    fail "go"
    refine st_put1 k1 (T_R.cl .draws) (T_R.n_bits .draws) (by simp) ?_
    fail "go"
    refine st_put1 upd_same (T_R.cl .draws) (T_R.n_told .draws) (Nat.lt_of_le_of_lt (length_putF _ _ _) (by decide)) ?_
    have hpp : p1 ≠ p := fun z => by rw [z, hp] at hp1; cases hp1
    rw [upd_upd, dflds_put]
    have hB : But p (upd H' p1 (.lst (vn (ns.map fun i => (i % 2).toNat)))) (upd (upd H' p1 (.lst (vn (ns.map fun i => (i % 2).toNat)))) p (.ins (CD_R .draws) dx [("bits", .ref p1), ("told", .int 0)])) := But.upd
    refine q _ p1 (fun c o hc e => hB _ _ hc (same_new hp1 _ _ _ e)) hp1 ⟨dx, upd_same, hB _ _ hpp upd_same, Nat.zero_le _, by rw [List.length_map]; exact hn, fun b hb => ?_⟩
    obtain ⟨i, _, rfl⟩ := List.mem_map.1 hb
    omega
theorem ok_Draws_draw {f : Addr} {fd : FuncData} (F : Fun K "draw" "Draws.draw" s_Draws_draw f fd) (T_R : Txt_R K CD_R) (b_len : mg "len" = none) : FnOk P w K mg base CX0 1 f fd ["self"] (sp_Draws_draw K CD_R) := by
  refine F.ok sc_Draws_draw (fun vs H Q E h => ?_) (fun cdv A outer s H vs Q E hr h => ?_)
  · obtain ⟨_, _, _, _, rfl, _⟩ := h
    rfl
  obtain ⟨d, lb, bs, k, rfl, ⟨dx, hd, hlb, hk, hbl, hb1⟩, q⟩ := h
  refine ⟨_, (pss_cons (ps_if (pt_cmpR (op_eq) (pe_fld (pv 0) rfl) (pe_callB (call_lenQ) rfl b_len PySem.boot_len (pa_cons (pe_fld (pv 0) rfl) pa_nil)) (nomark _)) (pss_one (ps_ret pe_int)) pss_nil)
      (pss_cons (ps_fld (pv 0) (pe_op (op_add) (pe_fld (pv 0) rfl) pe_int) rfl)
      (pss_one (ps_ret (pe_ix (ix_list) (pe_fld (pv 0) rfl) (pe_op (op_sub) (pe_fld (pv 0) rfl) pe_int) (fun _ _ => rfl)))))), ?_⟩
  fail "st"
  have slb := SqL.of (K := K) hlb
  fail "go"
  refine st_fld1 hd (T_R.cl _) (T_R.n_told _) rfl_told ?_
  fail "go"
  refine st_fld1 hd (T_R.cl _) (T_R.n_bits _) rfl ?_
  fail "go"
  rw [vn_len]
  refine iteD (fun c => ?_) (fun c => ?_)
  · have e : k = bs.length := by omega
    fail "go"
    have e2 : bs.getD k 0 = 0 := by rw [List.getD_eq_getElem?_getD, List.getElem?_eq_none (by omega)]; rfl
    have e3 : nxt bs k = k := if_pos e
    rw [e2, e3] at q
    exact q H (fun _ _ _ z => z) ⟨dx, hd, hlb, hk, hbl, hb1⟩
  · have hlt : k < bs.length := by omega
    fail "go"
    refine st_fld1 hd (T_R.cl _) (T_R.n_told _) rfl_told ?_
    fail "go"
    refine st_put1 hd (T_R.cl .draws) (T_R.n_told .draws) (by show 2 < 1000; decide) ?_
    rw [tflds_put]
    have hB : But d H (upd H d (.ins (CD_R .draws) dx [("bits", .ref lb), ("told", .int ((k : Int) + 1))])) := But.upd
    have g1 : (upd H d (.ins (CD_R .draws) dx [("bits", .ref lb), ("told", .int ((k : Int) + 1))])) d = some (.ins (CD_R .draws) dx [("bits", .ref lb), ("told", .int ((k : Int) + 1))]) := upd_same
    have hne : lb ≠ d := fun z => by rw [z, hd] at hlb; cases hlb
    have g2 := hB _ _ hne hlb
    generalize upd H d (.ins (CD_R .draws) dx [("bits", .ref lb), ("told", .int ((k : Int) + 1))]) = G at hB g1 g2 ⊢
    have slb2 := SqL.of (K := K) g2
    fail "go"
    refine st_fld1 g1 (T_R.cl _) (T_R.n_bits _) rfl ?_
    fail "go"
    refine st_fld1 g1 (T_R.cl _) (T_R.n_told _) rfl_told ?_
    fail "go"
    rw [show (k : Int) + 1 - 1 = (k : Int) by omega]
    refine st_ixL slb2 (atI_nat (vn_get (List.getElem?_eq_getElem hlt))) ?_
    have e2 : bs.getD k 0 = bs[k] := by rw [List.getD_eq_getElem?_getD, List.getElem?_eq_getElem hlt]; rfl
    have e3 : nxt bs k = k + 1 := if_neg (by omega)
    rw [e2, e3] at q
    exact q G hB ⟨dx, by rw [g1]; rfl, g2, hlt, hbl, hb1⟩
theorem ls_draw (c : Addr) : LamScope ["draws"] [] lam_drawer_of [("draws", c)] where
  kind := rfl
  co := rfl
  gen := rfl
  nd := by decide +kernel
  pre := rfl
  par := by decide +kernel
  post := fun i x h e => by
    match i, h, e with
    | 0, _, e => cases e; rfl
    | i + 1, _, e => cases e
  nocell := by decide +kernel
  fr := fun x h => ⟨c, by
    have h2 : List.lookup x [(("draws" : Str), NameKind.free)] = some .free := h
    have := PySem.mem_of_lookup h2
    simp only [List.mem_singleton, Prod.mk.injEq] at this
    rw [this.1]
    rfl⟩
  inj := fun x y d h1 h2 => by
    have e1 := PySem.mem_of_lookup h1
    have e2 := PySem.mem_of_lookup h2
    simp only [List.mem_singleton, Prod.mk.injEq] at e1 e2
    rw [e1.1, e2.1]
  binds := fun pm ctv c' us hl => (match us, hl with | [], _ => rfl)
theorem cells_ref {G : Hp} {c d : Addr} {o : Obj} (h1 : G c = some (exO c o)) (h2 : o.data = .cell (some (.ref d))) : CellsAt G ["draws"] [("draws", c)] ((([] : List V) ++ [V.ref d]).map some) := fun x e hx => by
  have e1 := PySem.mem_of_lookup hx
  simp only [List.mem_singleton, Prod.mk.injEq] at e1
  obtain ⟨rfl, rfl⟩ := e1
  refine ⟨o, _, h1, h2, fun n v e1 e2 => ?_⟩
  match n, e1, e2 with
  | 0, _, e2 => cases e2; rfl
  | n + 1, e1, _ => cases e1
theorem lam_ok (m_R_draw : ∀ d : RK, MCal P w K mg base CX0 1 (CD_R d) "draw" ["self"] (sp_R_draw K CD_R d)) (T_R : Txt_R K CD_R) : LCal P w K mg base 2 (LD CD_R) := by
  refine ⟨fun f vs H Q h => ?_, fun f A outer s H us vs Q hr e0 r h => ?_⟩
  · obtain ⟨d, lb, bs, k, rfl, ⟨c, o, ⟨c', oc, pm, ctv, hf, _⟩, _⟩, _⟩ := h
    exact ⟨_, _, hf, rfl⟩
  · obtain ⟨d, lb, bs, k, rfl, ⟨c, o, hL, hc, hcd⟩, hd, q⟩ := h
    refine run_lam (k := 1) (ws := [.ref d]) (ls_draw c) hr e0 r rfl rfl hL (cells_ref hc hcd) (fun p hp => ⟨"draws", by rw [List.mem_singleton.mp hp]; rfl⟩) fun c' => ?_
    have hr := hr.deeper (PySem.W.envX lam_drawer_of.qual lam_drawer_of.scope s.heap.objs.size f (.ref c') [("draws", c)])
    refine ⟨_, (pe_md0 m_R_draw hr pass0 (pv 0)), ?_⟩
    have out : ∀ a o', H a = some o' → a ≠ c → unc [("draws", c)] H a = some o' := fun a o' e n => by
      rw [unc_out (by simpa using n)]
      exact e
    obtain ⟨dx, h1, h2, h3, h4, h5⟩ := hd
    have nd : d ≠ c := fun z => by rw [z, hc] at h1; cases h1
    have nl : lb ≠ c := fun z => by rw [z, hc] at h2; cases h2
    fail "go"
    refine st_md1 (d := RK.draws) (out _ _ h1 nd) (rfl_no _ _) ?_
    fail "go"
    refine ⟨d, lb, bs, k, rfl, ⟨dx, out _ _ h1 nd, out _ _ h2 nl, h3, h4, h5⟩, fun H' hB hd' => ?_⟩
    have recO : ∀ a, a ≠ c → rec_ [("draws", c)] H H' a = H' a := fun a n => by
      show (if a ∈ [c] then H a else H' a) = _
      rw [if_neg (by simpa using n)]
    have recI : rec_ [("draws", c)] H H' c = H c := by
      show (if c ∈ [c] then H c else H' c) = _
      rw [if_pos (by simp)]
    obtain ⟨dx', g1, g2, g3⟩ := hd'
    refine q _ (fun a o' ha e => ?_) ⟨dx', by rw [recO d nd]; exact g1, by rw [recO lb nl]; exact g2, g3⟩
    by_cases z : a = c
    · rw [z, recI, ← z]; exact e
    · rw [recO a z]
      exact hB a o' ha (out a o' e z)
theorem ok_drawer_of {f : Addr} {fd : FuncData} (F : FunC K "drawer_of" "drawer_of" s_drawer_of f fd cc_drawer_of) (k_Draws : KCal P w K mg base CX0 1 "Draws" (CD_R .draws) ["self", "numbers"] (sp_Draws___init__ K CD_R)) (T_R : Txt_R K CD_R) (tb_drawer_of : PySem.W.CodeHd base cc_drawer_of TT_drawer_of) (bm : BltM mg base) : FnOk P w K mg base CX0 3 f fd ["numbers"] (sp_drawer_of K CD_R TT_drawer_of) := by
  refine F.okRet (l := lam_drawer_of) (clf := fun L => [("draws", L + 1)]) sc_drawer_of tb_drawer_of bm rfl (fun _ => rfl) (fun _ => rfl) (fun _ => rfl) (fun L y a h => by cases h with | head => exact ⟨rfl, rfl⟩ | tail _ h => cases h) (fun vs H Q E h => ?_) (fun A outer s H vs Q E hr h => ?_)
  · obtain ⟨_, _, rfl, _⟩ := h
    rfl
  obtain ⟨l, ns, rfl, hl, hn, tb, q⟩ := h
  refine ⟨_, (ps_set (i := 1) sc_drawer_of.nd rfl (Or.inr rfl) (pe_new k_Draws hr pass0 (pa_cons (pv 0) pa_nil))), ?_⟩
  fail "go"
  intro x dx hx hdx hne
  have S0 : Same H (upd (upd H dx (.own x)) x (.ins (CD_R .draws) dx [])) := same_made hx hdx
  refine ⟨x, l, dx, ns, rfl, upd_same, S0.seq hl, hn, fun H' lb hB hlb hd => ⟨rfl, ?_⟩⟩
  have S1 : Same H H' := But.same S0 hB hx
  fail "go"
  refine ⟨tb.1.same S1, fun f' H2 sx tb2 fr la G cov => ?_⟩
  obtain ⟨ps, hT, _⟩ := id tb.1
  have hT' := S1 _ _ hT
  have sT : SameT H G := fun a o e n => cov.same _ _ (sx.t hT' a o (S1 _ _ e) n)
  have tG : ∀ a o, H' a = some o → (∀ ps, o ≠ .tbl ps) → G a = some o := fun a o e n => cov.same _ _ (sx.t hT' a o e n)
  refine q f' x lb G sT ⟨TabAt.same cov.same tb2, tb.2⟩ ?_ hx (none_of S0 hlb) ?_ ?_
  · cases e : H f' with
    | none => rfl
    | some u => rw [S1 _ _ e] at fr; cases fr
  · obtain ⟨_, o, g1, g2⟩ := cov.at_ "draws" _ List.mem_cons_self
    obtain ⟨u, g3, g4⟩ := g2 1 (.ref x) rfl rfl
    obtain rfl : u = Value.ref x := g4
    exact ⟨_, o, LamAt.same cov.same la, g1, g3⟩
  · obtain ⟨dx', h1, h2, h3⟩ := hd
    exact ⟨dx', tG _ _ h1 (by intro p z; cases z), tG _ _ h2 (by intro p z; cases z), h3⟩
theorem ok_Machine___init__ {f : Addr} {fd : FuncData} (F : Fun K "__init__" "Machine.__init__" s_Machine___init__ f fd) (T_M : Txt_M K CD_M) (c_NoWires : ExcC K mg "NoWires" C_NoWires) (c_is_whole_number : Cal P w K mg base CX0 1 "is_whole_number" ["thing"] (sp_is_whole_number K)) : FnOk P w K mg base (CXE P w) 2 f fd ["self", "n", "most"] (sp_Machine___init__ K CD_M) := by
  refine F.okE sc_Machine___init__ (fun vs H Q E h => ?_) (fun cdv A outer s H vs Q E hr h => ?_)
  · obtain ⟨_, _, _, rfl, _⟩ := h
    rfl
  obtain ⟨p, n, m, rfl, h1, hm, dx, hp, q⟩ := h
  refine ⟨_, (pss_cons (ps_if (PW.pt (pw_or (pt_not (pt_val (pe_fn c_is_whole_number hr pass0 (pa_cons (pv 1) pa_nil)))) (pw_or (pt_cmpR (op_lt) (pv 1) pe_int (nomark _)) (pw_or1 (pt_cmpR (op_gt) (pv 1) (pv 2) (nomark _)))))) (pss_one (ps_raise c_NoWires raisesE (pa_cons pe_str pa_nil) rfl)) pss_nil)
      (pss_one (ps_fld (pv 0) (pv 1) rfl))), ?_⟩
  fail "st"
  fail "go"
  refine ⟨_, true, rfl, WN.int K H _, ?_⟩
  fail "go"
  refine iteD (fun c => absurd c (by omega)) (fun _ => ?_)
  fail "go"
  refine iteD (fun c => absurd c (by omega)) (fun _ => ?_)
  fail "go"
  exact st_put1 hp (T_M.cl .sg) (T_M.n_n .sg) (by decide) q
theorem ok_Signs___init__ {f : Addr} {fd : FuncData} (F : Fun K "__init__" "Signs.__init__" s_Signs___init__ f fd) (cm_Machine___init__ : CCal P w K mg base (CXE P w) 2 "Machine" "__init__" ["self", "n", "most"] (sp_Machine___init__ K CD_M)) (T_M : Txt_M K CD_M) (g_MOST_WIRES : GC mg "MOST_WIRES" (.int 40)) (b_range : mg "range" = none) : FnOk P w K mg base (CXE P w) 3 f fd ["self", "n"] (sp_Signs___init__ K CD_M) := by
  refine F.okE sc_Signs___init__ (fun vs H Q E h => ?_) (fun cdv A outer s H vs Q E hr h => ?_)
  · obtain ⟨_, _, rfl, _⟩ := h
    rfl
  obtain ⟨p, n, rfl, h1, hm, dx, hp, q⟩ := h
  refine ⟨_, (pss_cons (ps_expr (pe_cm cm_Machine___init__ hr passE (pa_cons (pv 0) (pa_cons (pv 1) (pa_cons (pe_gc g_MOST_WIRES) pa_nil)))))
      (pss_one (ps_fld (pv 0) (pe_comp (sc := defScope s_Signs___init__) rfl ⟨rfl, by decide +kernel, rfl, by decide +kernel, by decide +kernel, by decide +kernel, by decide +kernel⟩ (by show ("k" : Str) ∉ (["self", "n"] : List Str); decide +kernel) (by show (".0" : Str) ∉ (["self", "n"] : List Str); decide +kernel) sc_Signs___init__.nd rfl (pi_range1 rfl b_range (pa_cons (pv 1) pa_nil)) (fun _ _ _ _ => pif_nil) (fun _ _ _ _ => (pe_tup (pa_cons pe_int (pa_cons pe_int (pa_cons (pe_op (op_shl) pe_int (pv 0)) pa_nil)))))) rfl))), ?_⟩
  fail "st"
  fail "go"
  refine ⟨p, n, 40, rfl, h1, by omega, dx, hp, ?_⟩
  have g0 : (upd H p (.ins (CD_M .sg) dx [("n", .int (n : Int))])) p = some (.ins (CD_M .sg) dx [("n", .int (n : Int))]) := upd_same
  have gB : But p H (upd H p (.ins (CD_M .sg) dx [("n", .int (n : Int))])) := But.upd
  generalize upd H p (.ins (CD_M .sg) dx [("n", .int (n : Int))]) = G at g0 gB ⊢
  fail "go"
  refine st_comp_range (n := n) (by omega) (fun P h => ⟨_, rfl, h⟩) (fun i ys H' => Same G H' ∧ ∃ as, ys = refs as ∧ All2 (Rt K H') as (zs i)) ⟨Same.refl _, [], rfl, .nil⟩ ?_ ?_ ?_
  · rintro i ys H' ⟨_, as, rfl, h2⟩
    have := h2.len
    unfold zs at this
    rw [List.length_map, List.length_range] at this
    rw [refs_len]
    omega
  · rintro i ys H' hi ⟨h1, as, rfl, h2⟩
    refine st_yes ?_
    fail "go"
    rename_i p2 hp2
    refine ⟨h1.trans (same_new hp2 _), as ++ [p2], refs_snoc _ _, ?_⟩
    have e : zs (i + 1) = zs i ++ [⟨0, 0, 2 ^ i⟩] := by
      unfold zs
      rw [List.range_succ, List.map_append]
      rfl
    rw [e]
    exact (h2.mono fun a r x => same_new hp2 _ _ _ x).snoc upd_same
  · rintro ys H' ⟨h1, as, rfl, h2⟩ p1 hp1
    have k1 := same_new hp1 (.lst (refs as)) _ _ (h1 _ _ g0)
    fail "go"
    refine st_put1 k1 (T_M.cl .sg) (T_M.n_kept .sg) (by simp) ?_
    rw [mflds_put]
    have hB : But p (upd H' p1 (.lst (refs as))) (upd (upd H' p1 (.lst (refs as))) p (.ins (CD_M .sg) dx [("n", .int (n : Int)), ("kept", .ref p1)])) := But.upd
    have hpp : p1 ≠ p := fun z => by rw [z, h1 _ _ g0] at hp1; cases hp1
    refine q _ (fun c o hc e => hB _ _ hc (same_new hp1 _ _ _ (h1 _ _ (gB _ _ hc e)))) ⟨dx, p1, as, upd_same, hB _ _ hpp upd_same, ?_⟩
    exact h2.mono fun a r x => hB _ _ (fun z => by
      have x' : H' a = some (.tup r.V) := x
      rw [z, h1 _ _ g0] at x'
      cases x') (same_new hp1 _ _ _ x)
theorem ok_Signs_sure_value {f : Addr} {fd : FuncData} (F : Fun K "sure_value" "Signs.sure_value" s_Signs_sure_value f fd) (T_M : Txt_M K CD_M) (c_made_of : Cal P w K mg base (CXE P w) 5 "made_of" ["rows", "row"] (sp_made_of K)) : FnOk P w K mg base (CXE P w) 6 f fd ["self", "row"] (sp_Signs_sure_value K CD_M) := by
  refine F.okE sc_Signs_sure_value (fun vs H Q E h => ?_) (fun cdv A outer s H vs Q E hr h => ?_)
  · obtain ⟨_, _, _, _, _, rfl, _⟩ := h
    rfl
  obtain ⟨x, a, n, rs, o, rfl, ⟨dx, l, as, hx, hl, hA⟩, kp, ha, ok, q⟩ := h
  refine ⟨_, (pss_cons (ps_set (i := 2) sc_Signs_sure_value.nd rfl (Or.inl rfl) (pe_fn c_made_of hr passE (pa_cons (pe_fld (pv 0) rfl) (pa_cons (pv 1) pa_nil))))
      (pss_one (ps_ret (pe_ifExp (pt_cmpR (op_isN) (pv 2) pe_non (nomark _)) pe_non (pe_ix (ix_tup) (pv 2) pe_int (fun _ _ => rfl)))))), ?_⟩
  fail "st"
  fail "go"
  refine st_fld1 hx (T_M.cl _) (T_M.n_kept _) (rfl_kept) ?_
  fail "go"
  refine ⟨l, a, as, rs, o, rfl, hl, hA, by rw [hA.len]; exact kp.len, ha, kp.ok, ok, kp.sy, fun H' hS => ⟨fun no => ?_, fun m p q2 hm hs hq hp => ?_⟩⟩
  · fail "go"
    refine isN (b := true) nn_t ?_
    fail "go"
    exact (q H' hS).1 no
  · have hp' := SqT.of (K := K) hp
    fail "go"
    refine isN (b := false) (nn_f _) ?_
    fail "go"
    exact (q H' hS).2 m hm hs
theorem ok_Signs_settle {f : Addr} {fd : FuncData} (F : Fun K "settle" "Signs.settle" s_Signs_settle f fd) (T_M : Txt_M K CD_M) (c_times : Cal P w K mg base (CXE P w) 3 "times" ["one", "other"] (sp_times K C_NoProduct)) (c_goes_beside : Cal P w K mg base CX0 2 "goes_beside" ["one", "other"] (sp_goes_beside K)) (g_XS : GC mg "XS" (.int 1)) (g_ZS : GC mg "ZS" (.int 2)) : FnOk P w K mg base (CXE P w) 4 f fd ["self", "row", "value"] (sp_Signs_settle K CD_M) := by
  refine F.okE sc_Signs_settle (fun vs H Q E h => ?_) (fun cdv A outer s H vs Q E hr h => ?_)
  · obtain ⟨_, _, _, _, _, _, rfl, _⟩ := h
    rfl
  obtain ⟨x, a, v, n, rs, o, rfl, ⟨dx, l, as, hx, hl, hA⟩, kp, ha, hcr, q⟩ := h
  refine ⟨_, (pss_cons (ps_setC (i := 3) rfl (Or.inl rfl) (sc := defScope s_Signs_settle) rfl ⟨rfl, by decide +kernel, rfl, by decide +kernel, by decide +kernel, by decide +kernel, by decide +kernel⟩ (by show ("other" : Str) ∉ (["self", "row", "value", "staying", "crossing", "mended"] : List Str); decide +kernel) (by show (".0" : Str) ∉ (["self", "row", "value", "staying", "crossing", "mended"] : List Str); decide +kernel) sc_Signs_settle.nd rfl (pi_list (pe_fld (pv 0) rfl)) (fun _ _ _ _ => (pif_one (pt_val (pe_fn c_goes_beside hr pass0 (pa_cons (pv 0) (pa_cons (pv 2) pa_nil)))))) (fun _ _ _ _ => (pv 0)))
      (pss_cons (ps_set (i := 4) sc_Signs_settle.nd rfl (Or.inr rfl) (pe_comp (sc := defScope s_Signs_settle) rfl ⟨rfl, by decide +kernel, rfl, by decide +kernel, by decide +kernel, by decide +kernel, by decide +kernel⟩ (by show ("other" : Str) ∉ (["self", "row", "value", "staying", "crossing", "mended"] : List Str); decide +kernel) (by show (".0" : Str) ∉ (["self", "row", "value", "staying", "crossing", "mended"] : List Str); decide +kernel) sc_Signs_settle.nd rfl (pi_list (pe_fld (pv 0) rfl)) (fun _ _ _ _ => (pif_one (pt_not (pt_val (pe_fn c_goes_beside hr pass0 (pa_cons (pv 0) (pa_cons (pv 2) pa_nil))))))) (fun _ _ _ _ => (pv 0))))
      (pss_cons (ps_setC (i := 5) rfl (Or.inl rfl) (sc := defScope s_Signs_settle) rfl ⟨rfl, by decide +kernel, rfl, by decide +kernel, by decide +kernel, by decide +kernel, by decide +kernel⟩ (by show ("other" : Str) ∉ (["self", "row", "value", "staying", "crossing", "mended"] : List Str); decide +kernel) (by show (".0" : Str) ∉ (["self", "row", "value", "staying", "crossing", "mended"] : List Str); decide +kernel) sc_Signs_settle.nd rfl (pi_list (pe_slice (sl_list) (pv 4) (po_some pe_int) po_none)) (fun _ _ _ _ => pif_nil) (fun _ _ _ _ => (pe_fn c_times hr passE0 (pa_cons (pe_ix (ix_listK (K := K) rfl) (pv 5) pe_int (fun _ _ => rfl)) (pa_cons (pv 0) pa_nil)))))
      (pss_one (ps_fld (pv 0) (pe_op (op_cat) (pe_op (op_cat) (pv 3) (pv 5)) (pe_lst (pa_cons (pe_tup (pa_cons (pv 2) (pa_cons (pe_ix (ix_tup) (pv 1) (pe_gc g_XS) (fun _ _ => rfl)) (pa_cons (pe_ix (ix_tup) (pv 1) (pe_gc g_ZS) (fun _ _ => rfl)) pa_nil)))) pa_nil))) rfl))))), ?_⟩
  fail "st"
  have sl := SqL.of (K := K) hl
  fail "go"
  refine st_cpE ?_
  fail "go"
  refine st_fld1 hx (T_M.cl _) (T_M.n_kept _) rfl_kept ?_
  fail "go"
  refine st_cpAt sl (fun i ys H' => H' = H ∧ ∃ bs, ys = refs bs ∧ All2 (Rt K H) bs ((rs.take i).filter fun r => !symp r o)) (by rw [refs_len, hA.len]; have := kp.len; omega) ⟨rfl, [], rfl, .nil⟩ ?_ ?_ ?_ ?_
  · rintro i ys H' ⟨_, bs, rfl, h⟩
    rw [refs_len, h.len]
    exact Nat.le_trans (List.length_filter_le _ _) (by rw [List.length_take]; omega)
  · rintro i ys H' ⟨rfl, _⟩
    exact sl
  · rintro i y ys H' hy ⟨rfl, bs, rfl, h⟩
    obtain ⟨b, hb, rfl⟩ := refs_get hy
    obtain ⟨r, hr2, hbr⟩ := hA.get hb
    fail "go"
    refine ⟨b, a, r, o, rfl, SqT.of hbr, SqT.of ha, ?_⟩
    rw [besb, take_succ_of hr2, List.filter_append]
    cases hs : symp r o with
    | false =>
      fail "go"
      refine ⟨rfl, bs ++ [b], refs_snoc _ _, ?_⟩
      rw [List.filter_cons_of_pos (by rw [hs]; rfl)]
      exact h.snoc hbr
    | true =>
      fail "go"
      refine ⟨rfl, bs, rfl, ?_⟩
      rw [List.filter_cons_of_neg (by rw [hs]; decide), List.filter_nil, List.append_nil]
      exact h
  · rintro ys H' ⟨rfl, bs, rfl, hb⟩ p1 hp1
    rw [refs_len, hA.len, List.take_length] at hb
    have S1 := same_new hp1 (.lst (refs bs))
    have f1 : (upd H' p1 (.lst (refs bs))) p1 = some (.lst (refs bs)) := upd_same
    generalize upd H' p1 (.lst (refs bs)) = G1 at S1 f1 ⊢
    have hx1 := S1 _ _ hx
    have sl1 := S1.seq sl
    have ha1 := S1 _ _ ha
    have hA1 : All2 (Rt K G1) as rs := hA.mono fun b r x => S1 _ _ x
    have hb1 : All2 (Rt K G1) bs (rs.filter fun r => !symp r o) := hb.mono fun b r x => S1 _ _ x
    fail "go"
    refine st_cpE ?_
    fail "go"
    refine st_fld1 hx1 (T_M.cl _) (T_M.n_kept _) rfl_kept ?_
    fail "go"
    refine st_cpAt sl1 (fun i ys H' => H' = G1 ∧ ∃ bs, ys = refs bs ∧ All2 (Rt K G1) bs ((rs.take i).filter fun r => symp r o)) (by rw [refs_len, hA.len]; have := kp.len; omega) ⟨rfl, [], rfl, .nil⟩ ?_ ?_ ?_ ?_
    · rintro i ys H' ⟨_, bs, rfl, h⟩
      rw [refs_len, h.len]
      exact Nat.le_trans (List.length_filter_le _ _) (by rw [List.length_take]; omega)
    · rintro i ys H' ⟨rfl, _⟩
      exact sl1
    · rintro i y ys H' hy ⟨rfl, bs, rfl, h⟩
      obtain ⟨b, hb, rfl⟩ := refs_get hy
      obtain ⟨r, hr2, hbr⟩ := hA1.get hb
      fail "go"
      refine ⟨b, a, r, o, rfl, SqT.of hbr, SqT.of ha1, ?_⟩
      rw [besb, take_succ_of hr2, List.filter_append]
      cases hs : symp r o with
      | true =>
        refine ⟨false, rfl, ?_⟩
        rw [if_pos (show (!false) = true from rfl)]
        fail "go"
        refine ⟨rfl, bs ++ [b], refs_snoc _ _, ?_⟩
        rw [List.filter_cons_of_pos (p := fun r => symp r o) hs]
        exact h.snoc hbr
      | false =>
        refine ⟨true, rfl, ?_⟩
        rw [if_neg (show ¬ (!true) = true from Bool.false_ne_true)]
        refine ⟨rfl, bs, rfl, ?_⟩
        rw [List.filter_cons_of_neg (by rw [hs]; decide), List.filter_nil, List.append_nil]
        exact h
    · rintro ys H2 ⟨rfl, cs, rfl, hc⟩ p2 hp2
      rw [refs_len, hA1.len, List.take_length] at hc
      have hcl : cs.length ≤ 1 := by rw [hc.len]; exact hcr
      have S2 := S1.trans (same_new hp2 (.lst (refs cs)))
      have f2 : (upd H2 p2 (.lst (refs cs))) p2 = some (.lst (refs cs)) := upd_same
      have f12 := same_new hp2 (.lst (refs cs)) _ _ f1
      have hb2 : All2 (Rt K (upd H2 p2 (.lst (refs cs)))) bs (rs.filter fun r => !symp r o) := hb1.mono fun b r x => same_new hp2 _ _ _ x
      generalize upd H2 p2 (.lst (refs cs)) = G2 at S2 f2 f12 hb2 ⊢
      have s2 := SqL.of (K := K) f2
      fail "go"
      refine st_cpE ?_
      fail "go"
      rename_i p3 hp3
      have e3 : cutV (refs cs) (some 1) none = [] := cut_short hcl
      rw [e3]
      have S3 := S2.trans (same_new hp3 (.lst []))
      have f3 : SqL K (upd G2 p3 (.lst [])) p3 [] := SqL.of upd_same
      have f13 := same_new hp3 (.lst []) _ _ f12
      have hb3 : All2 (Rt K (upd G2 p3 (.lst []))) bs (rs.filter fun r => !symp r o) := hb2.mono fun b r x => same_new hp3 _ _ _ x
      generalize upd G2 p3 (.lst []) = G3 at S3 f3 f13 hb3 ⊢
      refine st_cpAt f3 (fun i ys H' => H' = G3 ∧ ys = []) (by decide) ⟨rfl, rfl⟩ ?_ ?_ ?_ ?_
      · rintro i ys H' ⟨_, rfl⟩
        exact Nat.zero_le _
      · rintro i ys H' ⟨rfl, _⟩
        exact f3
      · rintro i y ys H' hy _
        cases hy
      · rintro ys H' ⟨rfl, rfl⟩ p4 hp4
        have S4 := S3.trans (same_new hp4 (.lst []))
        have f4 : (upd H' p4 (.lst [])) p4 = some (.lst []) := upd_same
        have f14 := same_new hp4 (.lst []) _ _ f13
        have hb4 : All2 (Rt K (upd H' p4 (.lst []))) bs (rs.filter fun r => !symp r o) := hb3.mono fun b r x => same_new hp4 _ _ _ x
        generalize upd H' p4 (.lst []) = G4 at S4 f4 f14 hb4 ⊢
        have hx4 := S4 _ _ hx
        have ha4 := SqT.of (K := K) (S4 _ _ ha)
        unfold Row.V at ha4
        have hbl : bs.length ≤ 40 := by rw [hb4.len]; exact Nat.le_trans (List.length_filter_le _ _) kp.len
        fail "go"
        rename_i p5 hp5 p6 hp6 p7 hp7 p8 hp8
        rw [List.append_nil] at hp6 hp7 hp8 ⊢
        have T5 := same_new hp5 (.lst (refs bs))
        have T6 := same_new hp6 (.tup [V.int (v : Int), V.int (o.x : Int), V.int (o.z : Int)])
        have T7 := same_new hp7 (.lst [.ref p6])
        have T8 := same_new hp8 (.lst (refs bs ++ [.ref p6]))
        have f6 := T8 _ _ (T7 _ _ (upd_same (H := upd G4 p5 (.lst (refs bs))) (a := p6) (o := .tup [V.int (v : Int), V.int (o.x : Int), V.int (o.z : Int)])))
        have f8 := upd_same (H := upd (upd (upd G4 p5 (.lst (refs bs))) p6 (.tup [V.int (v : Int), V.int (o.x : Int), V.int (o.z : Int)])) p7 (.lst [.ref p6])) (a := p8) (o := .lst (refs bs ++ [.ref p6]))
        have S8 := (((S4.trans T5).trans T6).trans T7).trans T8
        have hb8 : All2 (Rt K _) bs (rs.filter fun r => !symp r o) := hb4.mono fun b r x => T8 _ _ (T7 _ _ (T6 _ _ (T5 _ _ x)))
        show rPut K _ _ _ _ _ (upd (upd (upd (upd G4 p5 (.lst (refs bs))) p6 (.tup [V.int (v : Int), V.int (o.x : Int), V.int (o.z : Int)])) p7 (.lst [.ref p6])) p8 (.lst (refs bs ++ [.ref p6])))
        generalize upd (upd (upd (upd G4 p5 (.lst (refs bs))) p6 (.tup [V.int (v : Int), V.int (o.x : Int), V.int (o.z : Int)])) p7 (.lst [.ref p6])) p8 (.lst (refs bs ++ [.ref p6])) = G8 at f6 f8 S8 hb8 ⊢
        have hx8 := S8 _ _ hx
        refine st_put1 hx8 (T_M.cl .sg) (T_M.n_kept .sg) (by show 2 < 1000; decide) ?_
        rw [kflds_put]
        have hB : But x G8 (upd G8 x (.ins (CD_M .sg) dx [("n", .int (n : Int)), ("kept", .ref p8)])) := But.upd
        have nx : ∀ c o', G8 c = some o' → (∀ C d fs, o' ≠ .ins C d fs) → c ≠ x := fun c o' e n z => by
          rw [z, hx8] at e
          cases e
          exact n _ _ _ rfl
        refine q _ (fun c o' hc e => hB _ _ hc (S8 _ _ e)) ⟨dx, p8, bs ++ [p6], upd_same, ?_, ?_⟩
        · rw [hB _ _ (nx _ _ f8 (by intro C d fs z; cases z)) f8, refs_snoc]
        · unfold stl
          exact (hb8.mono fun b r y => hB _ _ (nx _ _ y (by intro C d fs z; cases z)) y).snoc (hB _ _ (nx _ _ f6 (by intro C d fs z; cases z)) f6)
theorem ok_Machine_look {f : Addr} {fd : FuncData} (F : FunD K "look" "Machine.look" s_Machine_look f fd .none) (m_M_sure_value : ∀ d : MK, MCal P w K mg base (CXE P w) 6 (CD_M d) "sure_value" ["self", "row"] (sp_M_sure_value K CD_M d)) (m_M_settle : ∀ d : MK, MCal P w K mg base (CXE P w) 4 (CD_M d) "settle" ["self", "row", "value"] (sp_M_settle K CD_M d)) (T_M : Txt_M K CD_M) (c_check_look : Cal P w K mg base (CXE P w) 3 "check_look" ["row", "n"] (sp_check_look K)) (c_value_drawn : Cal P w K mg base CX0 3 "value_drawn" ["draw"] (sp_value_drawn K CD_R)) : FnOk P w K mg base (CXE P w) 7 f fd ["self", "row", "draw"] (sp_Machine_look K CD_M CD_R) := by
  refine F.okE sc_Machine_look (fun vs H Q E h => ?_) (fun cdv A outer s H vs Q E hr h => ?_)
  · obtain ⟨_, _, _, _, _, _, rfl, _⟩ := h
    rfl
  obtain ⟨x, a, dv, n, rs, o, rfl, sg, kp, ha, lk, h⟩ := h
  refine ⟨_, (pss_cons (ps_expr (pe_fn c_check_look hr passE (pa_cons (pv 1) (pa_cons (pe_fld (pv 0) rfl) pa_nil))))
      (pss_cons (ps_set (i := 3) sc_Machine_look.nd rfl (Or.inl rfl) (pe_md m_M_sure_value hr passE (pv 0) (pa_cons (pv 1) pa_nil)))
      (pss_cons (ps_if (pt_cmpR (op_notN) (pv 3) pe_non (nomark _)) (pss_one (ps_ret (pe_tup (pa_cons (pv 3) (pa_cons pe_bl pa_nil))))) pss_nil)
      (pss_cons (ps_set (i := 4) sc_Machine_look.nd rfl (Or.inl rfl) (pe_fn c_value_drawn hr pass0 (pa_cons (pv 2) pa_nil)))
      (pss_cons (ps_expr (pe_md m_M_settle hr passE (pv 0) (pa_cons (pv 1) (pa_cons (pv 4) pa_nil))))
      (pss_one (ps_ret (pe_tup (pa_cons (pv 4) (pa_cons pe_bl pa_nil)))))))))), ?_⟩
  fail "st"
  fail "go"
  obtain ⟨dx, l, as, hx, hl, hA⟩ := id sg
  refine st_fld1 hx (T_M.cl _) (T_M.n_n _) rfl ?_
  fail "go"
  refine ⟨a, n, o, rfl, ha, lk, fun H1 S1 => ?_⟩
  fail "go"
  refine st_md1 (d := MK.sg) (S1 _ _ hx) no_sure ?_
  fail "go"
  have ok40 : o.Ok 40 := ⟨lk.ok.m, Nat.lt_of_lt_of_le lk.ok.x (Nat.pow_le_pow_right (by decide) lk.n), Nat.lt_of_lt_of_le lk.ok.z (Nat.pow_le_pow_right (by decide) lk.n)⟩
  refine ⟨x, a, n, rs, o, rfl, sg.stay S1, kp, S1 _ _ ha, ok40, fun H2 S2 => ⟨fun no => ?_, fun m hm hs => ?_⟩⟩
  · rcases h with ⟨⟨m, hm, hs⟩, _⟩ | ⟨_, hcr, h⟩
    · exact (no m hs).elim
    fail "go"
    refine isNn (b := false) (by rw [nn_t]; rfl) ?_
    fail "go"
    refine ⟨dv, rfl, ?_⟩
    have S12 := S1.trans S2
    have sg2 := sg.stay S12
    have ha2 := S12 _ _ ha
    rcases h with ⟨rfl, q⟩ | ⟨f, d, lb, bs, k, rfl, hf, hd, q⟩
    · refine .inl ⟨rfl, ?_⟩
      fail "go"
      refine st_md1 (d := MK.sg) (S12 _ _ hx) no_settle ?_
      fail "go"
      refine ⟨x, a, 0, n, rs, o, rfl, sg2, kp, ha2, hcr, fun H3 hB sg3 => ?_⟩
      fail "go"
      rename_i p hp
      exact q p _ (fun c o' hc e => same_new hp _ _ _ (hB _ _ hc (S12 _ _ e))) (sg3.stay (same_new hp _)) upd_same
    · refine .inr ⟨f, d, lb, bs, k, rfl, hf.stay S12, hd.stay S12, fun H3 hB3 hd3 => ?_⟩
      obtain ⟨dxd, hdd, _⟩ := id (hd.stay S12)
      have sg3 := sg2.but hB3 hdd rfl
      have nxd : x ≠ d := fun z => by
        have e := S12 _ _ hx
        rw [z, hdd] at e
        injection e with e
        injection e with _ _ e
        exact names_ne (congrArg (fun l : List (Str × V) => l.map Prod.fst) e)
      have hx3 := hB3 _ _ nxd (S12 _ _ hx)
      have ha3 := hB3 _ _ (fun z => by rw [z, hdd] at ha2; cases ha2) ha2
      fail "go"
      refine st_md1 (d := MK.sg) hx3 no_settle ?_
      fail "go"
      refine ⟨x, a, bs.getD k 0, n, rs, o, rfl, sg3, kp, ha3, hcr, fun H4 hB4 sg4 => ?_⟩
      have hd4 := hd3.but hB4 hx3 rfl
      fail "go"
      rename_i p hp
      exact q p _ (fun c o' h1 h2 e => same_new hp _ _ _ (hB4 _ _ h1 (hB3 _ _ h2 (S12 _ _ e)))) (sg4.stay (same_new hp _)) (hd4.stay (same_new hp _)) upd_same
  · rcases h with ⟨_, q⟩ | ⟨no, _⟩
    · fail "go"
      refine isNn (b := true) (by rw [nn_i]; rfl) ?_
      fail "go"
      rename_i p hp
      exact q m hm hs p _ ((S1.trans S2).trans (same_new hp _)) upd_same
    · exact (no m hs).elim
theorem ok__law_bit {f : Addr} {fd : FuncData} (F : Fun K "_law_bit" "_law_bit" s__law_bit f fd) (b_len : mg "len" = none) : FnOk P w K mg base CX0 1 f fd ["_law_numbers", "_law_at"] (sp__law_bit K) := by
  refine F.ok sc__law_bit (fun vs H Q E h => ?_) (fun cdv A outer s H vs Q E hr h => ?_)
  · obtain ⟨_, _, _, rfl, _⟩ := h
    rfl
  obtain ⟨l, k, ns, rfl, hl, q⟩ := h
  refine ⟨_, (pss_cons (ps_if (pt_cmpR (op_lt) (pv 1) (pe_callB (call_lenQ) rfl b_len PySem.boot_len (pa_cons (pv 0) pa_nil)) (nomark _)) (pss_one (ps_ret (pe_op (op_mod) (pe_ix (ix_list) (pv 0) (pv 1) (fun _ _ => rfl)) pe_int))) pss_nil)
      (pss_one (ps_ret pe_int))), ?_⟩
  fail "st"
  fail "go"
  rw [List.length_map]
  refine iteD (fun c => ?_) (fun c => ?_)
  · have hk : k < ns.length := by omega
    fail "go"
    refine st_ixL hl (atI_nat (by rw [List.getElem?_map, List.getElem?_eq_getElem hk]; rfl)) ?_
    fail "go"
    have e : ((bit0 ns k : Nat) : Int) = ns[k] % 2 := by
      unfold bit0
      rw [List.getD_eq_getElem?_getD, List.getElem?_map, List.getElem?_eq_getElem hk]
      show (((ns[k] % 2).toNat : Nat) : Int) = _
      omega
    rw [e] at q
    exact q
  · fail "go"
    have e : bit0 ns k = 0 := by
      unfold bit0
      rw [List.getD_eq_getElem?_getD, List.getElem?_eq_none (by rw [List.length_map]; omega)]
      rfl
    rw [e] at q
    exact q
theorem ok__law_right {f : Addr} {fd : FuncData} (F : Fun K "_law_right" "_law_right" s__law_right f fd) (b_isinstance : mg "isinstance" = none) (b_int : mg "int" = none) (b_bool : mg "bool" = none) : FnOk P w K mg base CX0 1 f fd ["_law_found", "_law_due"] (sp__law_right K) := by
  refine F.ok sc__law_right (fun vs H Q E h => ?_) (fun cdv A outer s H vs Q E hr h => ?_)
  · obtain ⟨_, rfl, _⟩ := h
    rfl
  obtain ⟨i, rfl, q⟩ := h
  refine ⟨_, (pss_one (ps_ret (pe_and (pe_isB rfl b_isinstance (pv 0) b_int boot_int) (pe_and (pe_not (pe_isB rfl b_isinstance (pv 0) b_bool boot_bool)) (pe_one (pe_cmpR (op_eq) (pv 0) (pv 1) (nomark _))))))), ?_⟩
  fail "st"
  fail "go"
  rw [decide_eq_true rfl]
  exact q
theorem ok__law_used_up {f : Addr} {fd : FuncData} (F : Fun K "_law_used_up" "_law_used_up" s__law_used_up f fd) (k_Signs : KCal P w K mg base (CXE P w) 3 "Signs" (CD_M .sg) ["self", "n"] (sp_Signs___init__ K CD_M)) (T_M : Txt_M K CD_M) (m_M_look : ∀ d : MK, MCal P w K mg base (CXE P w) 7 (CD_M d) "look" ["self", "row", "draw"] (sp_M_look K CD_M CD_R d)) (mN_M_look : ∀ d : MK, MCalN P w K mg base (CXE P w) 7 (CD_M d) "look" ["self", "row", "draw"] (sp_M_look K CD_M CD_R d)) (c_drawer_of : Cal P w K mg base CX0 3 "drawer_of" ["numbers"] (sp_drawer_of K CD_R TT_drawer_of)) (c__law_bit : Cal P w K mg base CX0 1 "_law_bit" ["_law_numbers", "_law_at"] (sp__law_bit K)) (c__law_right : Cal P w K mg base CX0 1 "_law_right" ["_law_found", "_law_due"] (sp__law_right K)) (h_lam : LCal P w K mg base 2 (LD CD_R)) : FnOk P w K mg base CX0 8 f fd ["_law_numbers"] (sp__law_used_up K TT_drawer_of) := by
  refine F.ok sc__law_used_up (fun vs H Q E h => ?_) (fun cdv A outer s H vs Q E hr h => ?_)
  · obtain ⟨_, _, rfl, _⟩ := h
    rfl
  obtain ⟨l, ns, rfl, hl, hn, tb, q⟩ := h
  refine ⟨_, (pss_cons (ps_set (i := 1) sc__law_used_up.nd rfl (Or.inl rfl) (pe_new k_Signs hr passE0 (pa_cons pe_int pa_nil)))
      (pss_cons (ps_set (i := 2) sc__law_used_up.nd rfl (Or.inl rfl) (pe_fn c_drawer_of hr pass0 (pa_cons (pv 0) pa_nil)))
      (pss_cons (ps_set (i := 3) sc__law_used_up.nd rfl (Or.inl rfl) (pe_lst pa_nil))
      (pss_cons (ps_for PassesOwn.never rfl (pi_list (pe_lst (pa_cons pe_int (pa_cons pe_int (pa_cons pe_int (pa_cons pe_int (pa_cons pe_int pa_nil))))))) (pg_name (i := 4) sc__law_used_up.nd rfl (Or.inl rfl)) (pss_one (ps_expr (pe_bm PySem.F.plainAttrs_list PySem.F.slot_list_append PySem.F.type_list_append mt_append (pv 3) (pa_cons (pe_md m_M_look hr passE0 (pv 1) (pa_cons (pe_tup (pa_cons pe_int (pa_cons (pe_op (op_shl) pe_int (pv 4)) (pa_cons pe_int pa_nil)))) (pa_cons (pv 2) pa_nil))) pa_nil)))))
      (pss_cons (ps_set (i := 5) sc__law_used_up.nd rfl (Or.inl rfl) (pe_lst (pa_cons (pe_tup (pa_cons (pe_fn c__law_bit hr pass0 (pa_cons (pv 0) (pa_cons pe_int pa_nil))) (pa_cons pe_bl pa_nil))) (pa_cons (pe_tup (pa_cons (pe_fn c__law_bit hr pass0 (pa_cons (pv 0) (pa_cons pe_int pa_nil))) (pa_cons pe_bl pa_nil))) (pa_cons (pe_tup (pa_cons (pe_fn c__law_bit hr pass0 (pa_cons (pv 0) (pa_cons pe_int pa_nil))) (pa_cons pe_bl pa_nil))) pa_nil)))))
      (pss_cons (ps_set (i := 5) sc__law_used_up.nd rfl (Or.inl rfl) (pe_op (op_cat) (pv 5) (pe_lst (pa_cons (pe_tup (pa_cons (pe_fn c__law_bit hr pass0 (pa_cons (pv 0) (pa_cons pe_int pa_nil))) (pa_cons pe_bl pa_nil))) (pa_cons (pe_tup (pa_cons (pe_fn c__law_bit hr pass0 (pa_cons (pv 0) (pa_cons pe_int pa_nil))) (pa_cons pe_bl pa_nil))) pa_nil)))))
      (pss_cons (ps_if (PW.pt (pw_or (pt_cmpR (op_neD (hu_of64 hr)) (pv 3) (pv 5) (nomark _)) (pw_or1 (pt_not (pt_val (pe_fn c__law_right hr pass0 (pa_cons (pe_callE h_lam hr (pv 2)) (pa_cons (pe_fn c__law_bit hr pass0 (pa_cons (pv 0) (pa_cons pe_int pa_nil))) pa_nil)))))))) (pss_one (ps_ret pe_bl)) pss_nil)
      (pss_cons (ps_set (i := 6) sc__law_used_up.nd rfl (Or.inl rfl) (pe_new k_Signs hr passE0 (pa_cons pe_int pa_nil)))
      (pss_one (ps_ret (pe_and (pe_cmpR (op_eqD (hu_of64 hr)) (pe_mdN mN_M_look hr passE0 (pv 6) (pa_cons (pe_tup (pa_cons pe_int (pa_cons pe_int (pa_cons pe_int pa_nil)))) pa_nil)) (pe_tup (pa_cons pe_int (pa_cons pe_bl pa_nil))) (nomark _)) (pe_one (pe_cmpR (op_eqD (hu_of64 hr)) (pe_md m_M_look hr passE0 (pv 6) (pa_cons (pe_tup (pa_cons pe_int (pa_cons pe_int (pa_cons pe_int pa_nil)))) (pa_cons pe_non pa_nil))) (pe_tup (pa_cons pe_int (pa_cons pe_bl pa_nil))) (nomark _)))))))))))))), ?_⟩
  fail "st"
  fail "go"
  intro x dx hx hdx hne
  have S0 : Same H (upd (upd H dx (.own x)) x (.ins (CD_M .sg) dx [])) := same_made hx hdx
  refine ⟨x, 3, rfl, by decide, by decide, dx, upd_same, fun H1 hB1 sg1 => ⟨rfl, ?_⟩⟩
  have S1 : Same H H1 := But.same S0 hB1 hx
  fail "go"
  refine ⟨l, ns, rfl, S1.seq hl, hn, ⟨tb.1.same S1, tb.2⟩, fun f d lb H2 sT2 tb2 hf hd hlb dr dl => ?_⟩
  have dl : Dl CD_R H2 d lb (bts ns) 0 := dl
  obtain ⟨dxd, dl0⟩ := id dl
  have sg2 := sg1.t sT2
  have hd0 : H d = none := none_of S1 hd
  have T2 : SameT H H2 := fun a o e n => sT2 a o (S1 _ _ e) n
  fail "go"
  rename_i pt hpt
  have hpt0 : NT H pt := noneT T2 hpt
  have hx0 : NT H x := none0 hx
  have hd1 : NT H d := none0 hd0
  have nlb : lb ≠ pt := ne_of_none dl0.2.1 hpt
  fail "go"
  refine st_forE ?_
  fail "go"
  rename_i pq hpq
  have npq : pq ≠ pt := fun z => by rw [z, upd_same] at hpq; cases hpq
  have Sp := same_new hpt (.lst [])
  have Sq := same_new hpq (.lst [V.int 0, V.int 0, V.int 1, V.int 2, V.int 1])
  have u0 : Us K CD_M CD_R TT_drawer_of x f d lb pt pq H ns [] R0 (min 0 (bts ns).length) (upd (upd H2 pt (.lst [])) pq (.lst [V.int 0, V.int 0, V.int 1, V.int 2, V.int 1])) := by
    refine ⟨fun a o e n => Sq _ _ (Sp _ _ (T2 a o e n)), ⟨(tb2.1.same Sp).same Sq, tb2.2⟩, (sg2.stay Sp).stay Sq, (dr.stay Sp).stay Sq, ?_, ⟨[], Sq _ _ upd_same, .nil⟩, upd_same⟩
    rw [Nat.zero_min]
    exact (dl.stay Sp).stay Sq
  generalize upd (upd H2 pt (.lst [])) pq (.lst [V.int 0, V.int 0, V.int 1, V.int 2, V.int 1]) = G at u0 ⊢
  have ba := bts_le ns 0
  have bb := bts_le ns 1
  have bc := bts_le ns 2
  have e0 := bit_min (bts ns) 0
  have e1 := bit_min (bts ns) 1
  have e2 := bit_min (bts ns) 2
  have e3 := bit_min (bts ns) 3
  have x0 := nxt_min (bts ns) 0
  have x1 := nxt_min (bts ns) 1
  have x2 := nxt_min (bts ns) 2
  obtain ⟨A0, fa⟩ : ∃ A, A = (bts ns).getD 0 0 := ⟨_, rfl⟩
  obtain ⟨A1, fb⟩ : ∃ A, A = (bts ns).getD 1 0 := ⟨_, rfl⟩
  obtain ⟨A2, fc⟩ : ∃ A, A = (bts ns).getD 2 0 := ⟨_, rfl⟩
  obtain ⟨A3, fd3⟩ : ∃ A, A = (bts ns).getD 3 0 := ⟨_, rfl⟩
  have ga : bit0 ns 0 = A0 := fa.symm
  have gb : bit0 ns 1 = A1 := fb.symm
  have gc : bit0 ns 2 = A2 := fc.symm
  have gd : bit0 ns 3 = A3 := fd3.symm
  rw [← fa] at ba e0
  rw [← fb] at bb e1
  rw [← fc] at bc e2
  rw [← fd3] at e3
  refine st_forAt (SqL.of u0.lp) (fun i σ H' => ∃ u : Option V, σ = [some (.ref l), some (.ref x), some (.ref f), some (.ref pt), u, none, none] ∧ Us K CD_M CD_R TT_drawer_of x f d lb pt pq H ns ([(A0, false), (A0, true), (A1, false), (A2, false), (A1, true)].take i) (Rr A0 A1 A2 i) (min (Tt i) (bts ns).length) H') ⟨_, rfl, u0⟩ ?_ ?_ ?_
  · rintro i σ H' _ ⟨u, _, us⟩
    exact SqL.of us.lp
  · rintro i v σ H' hv ⟨u, rfl, us⟩
    obtain ⟨dxm, lm, asm, gx, _⟩ := id us.sg
    obtain ⟨ps0, gpt0, tp0⟩ := id us.told
    match i, hv, us with
    | 0, hv, us =>
      have us : Us K CD_M CD_R TT_drawer_of x f d lb pt pq H ns [] (R0) (min 0 (bts ns).length) H' := us
      cases hv
      fail "go"
      refine st_md1 (d := MK.sg) gx lk_no ?_
      fail "go"
      rename_i p hp
      have us1 := us.stay (same_new hp (.tup [V.int 0, V.int ((2 ^ 0 : Nat) : Int), V.int 0]))
      refine ⟨x, p, .ref f, 3, R0, ⟨0, 1, 0⟩, rfl, us1.sg, kp0, upd_same, lkr (by decide) (by decide) (by decide), .inr ⟨no0, (st0 0).2, .inr ⟨f, d, lb, bts ns, _, rfl, us1.dr, us1.dl, fun p' H3 hB3 sg3 dl3 hp3 => ?_⟩⟩⟩
      rw [e0] at sg3 hp3
      rw [(st0 A0).1] at sg3
      rw [x0] at dl3
      obtain ⟨ps, gpt, hps, us2⟩ := us1.step hx0 hd1 hpt0 nlb npq hB3 sg3 (by intro z; cases z) dl3 (e := (A0, false)) hp3
      have hlen : (refs ps).length ≤ 900 := by rw [refs_len, hps]; show 0 ≤ 900; decide
      fail "go"
      exact ⟨_, rfl, us2⟩
    | 1, hv, us =>
      have us : Us K CD_M CD_R TT_drawer_of x f d lb pt pq H ns [(A0, false)] (R1 A0) (min 1 (bts ns).length) H' := us
      cases hv
      fail "go"
      refine st_md1 (d := MK.sg) gx lk_no ?_
      fail "go"
      rename_i p hp
      have us1 := us.stay (same_new hp (.tup [V.int 0, V.int ((2 ^ 0 : Nat) : Int), V.int 0]))
      refine ⟨x, p, .ref f, 3, R1 A0, ⟨0, 1, 0⟩, rfl, us1.sg, kp1 ba, upd_same, lkr (by decide) (by decide) (by decide), .inl ⟨⟨4, by show 4 < 8; decide, ex1 _⟩, fun m hm hs p' H3 S3 hp3 => ?_⟩⟩
      rw [su1 ba hm hs] at hp3
      obtain ⟨ps, gpt, hps, us2⟩ := us1.step hx0 hd1 hpt0 nlb npq (fun c o _ _ e => S3 _ _ e) (us1.sg.stay S3) (by intro z; cases z) (us1.dl.stay S3) (e := (A0, true)) hp3
      have hlen : (refs ps).length ≤ 900 := by rw [refs_len, hps]; show 1 ≤ 900; decide
      fail "go"
      exact ⟨_, rfl, us2⟩
    | 2, hv, us =>
      have us : Us K CD_M CD_R TT_drawer_of x f d lb pt pq H ns [(A0, false), (A0, true)] (R1 A0) (min 1 (bts ns).length) H' := us
      cases hv
      fail "go"
      refine st_md1 (d := MK.sg) gx lk_no ?_
      fail "go"
      rename_i p hp
      have us1 := us.stay (same_new hp (.tup [V.int 0, V.int ((2 ^ 1 : Nat) : Int), V.int 0]))
      refine ⟨x, p, .ref f, 3, R1 A0, ⟨0, 2, 0⟩, rfl, us1.sg, kp1 ba, upd_same, lkr (by decide) (by decide) (by decide), .inr ⟨no1 _, (st1 A0 0).2, .inr ⟨f, d, lb, bts ns, _, rfl, us1.dr, us1.dl, fun p' H3 hB3 sg3 dl3 hp3 => ?_⟩⟩⟩
      rw [e1] at sg3 hp3
      rw [(st1 A0 A1).1] at sg3
      rw [x1] at dl3
      obtain ⟨ps, gpt, hps, us2⟩ := us1.step hx0 hd1 hpt0 nlb npq hB3 sg3 (by intro z; cases z) dl3 (e := (A1, false)) hp3
      have hlen : (refs ps).length ≤ 900 := by rw [refs_len, hps]; show 2 ≤ 900; decide
      fail "go"
      exact ⟨_, rfl, us2⟩
    | 3, hv, us =>
      have us : Us K CD_M CD_R TT_drawer_of x f d lb pt pq H ns [(A0, false), (A0, true), (A1, false)] (R3 A0 A1) (min 2 (bts ns).length) H' := us
      cases hv
      fail "go"
      refine st_md1 (d := MK.sg) gx lk_no ?_
      fail "go"
      rename_i p hp
      have us1 := us.stay (same_new hp (.tup [V.int 0, V.int ((2 ^ 2 : Nat) : Int), V.int 0]))
      refine ⟨x, p, .ref f, 3, R3 A0 A1, ⟨0, 4, 0⟩, rfl, us1.sg, kp3 ba bb, upd_same, lkr (by decide) (by decide) (by decide), .inr ⟨no3 _ _, (st3 A0 A1 0).2, .inr ⟨f, d, lb, bts ns, _, rfl, us1.dr, us1.dl, fun p' H3 hB3 sg3 dl3 hp3 => ?_⟩⟩⟩
      rw [e2] at sg3 hp3
      rw [(st3 A0 A1 A2).1] at sg3
      rw [x2] at dl3
      obtain ⟨ps, gpt, hps, us2⟩ := us1.step hx0 hd1 hpt0 nlb npq hB3 sg3 (by intro z; cases z) dl3 (e := (A2, false)) hp3
      have hlen : (refs ps).length ≤ 900 := by rw [refs_len, hps]; show 3 ≤ 900; decide
      fail "go"
      exact ⟨_, rfl, us2⟩
    | 4, hv, us =>
      have us : Us K CD_M CD_R TT_drawer_of x f d lb pt pq H ns [(A0, false), (A0, true), (A1, false), (A2, false)] (R4 A0 A1 A2) (min 3 (bts ns).length) H' := us
      cases hv
      fail "go"
      refine st_md1 (d := MK.sg) gx lk_no ?_
      fail "go"
      rename_i p hp
      have us1 := us.stay (same_new hp (.tup [V.int 0, V.int ((2 ^ 1 : Nat) : Int), V.int 0]))
      refine ⟨x, p, .ref f, 3, R4 A0 A1 A2, ⟨0, 2, 0⟩, rfl, us1.sg, kp4 ba bb bc, upd_same, lkr (by decide) (by decide) (by decide), .inl ⟨⟨2, by show 2 < 8; decide, ex4 _ _ _⟩, fun m hm hs p' H3 S3 hp3 => ?_⟩⟩
      rw [su4 ba bb bc hm hs] at hp3
      obtain ⟨ps, gpt, hps, us2⟩ := us1.step hx0 hd1 hpt0 nlb npq (fun c o _ _ e => S3 _ _ e) (us1.sg.stay S3) (by intro z; cases z) (us1.dl.stay S3) (e := (A1, true)) hp3
      have hlen : (refs ps).length ≤ 900 := by rw [refs_len, hps]; show 4 ≤ 900; decide
      fail "go"
      exact ⟨_, rfl, us2⟩
    | i + 5, hv, _ => cases hv
  · rintro σ H' ⟨u, rfl, us⟩
    have us : Us K CD_M CD_R TT_drawer_of x f d lb pt pq H ns [(A0, false), (A0, true), (A1, false), (A2, false), (A1, true)] (R4 A0 A1 A2) (min 3 (bts ns).length) H' := us
    have sq := hl.stayT us.same
    obtain ⟨ps0, gpt0, tp0⟩ := id us.told
    fail "go"
    refine ⟨l, 0, ns, rfl, sq, ?_⟩
    rw [ga]
    fail "go"
    refine ⟨l, 0, ns, rfl, Same.seq (by fail "sm") sq, ?_⟩
    rw [ga]
    fail "go"
    refine ⟨l, 1, ns, rfl, Same.seq (by fail "sm") sq, ?_⟩
    rw [gb]
    fail "go"
    refine ⟨l, 2, ns, rfl, Same.seq (by fail "sm") sq, ?_⟩
    rw [gc]
    fail "go"
    refine ⟨l, 1, ns, rfl, Same.seq (by fail "sm") sq, ?_⟩
    rw [gb]
    fail "go"
    rename_i a1 k1 a2 k2 a3 k3 a4 k4 a5 k5 a6 k6 a7 k7 a8 k8
    have SS : Same H' (upd (upd (upd (upd (upd (upd (upd (upd H' a1 (.tup [V.int (A0 : Int), V.bl false])) a2 (.tup [V.int (A0 : Int), V.bl true])) a3 (.tup [V.int (A1 : Int), V.bl false])) a4 (.lst [V.ref a1, V.ref a2, V.ref a3])) a5 (.tup [V.int (A2 : Int), V.bl false])) a6 (.tup [V.int (A1 : Int), V.bl true])) a7 (.lst [V.ref a5, V.ref a6])) a8 (.lst ([V.ref a1, V.ref a2, V.ref a3] ++ [V.ref a5, V.ref a6]))) := by fail "sm"
    have b1 : (upd (upd (upd (upd (upd (upd (upd (upd H' a1 (.tup [V.int (A0 : Int), V.bl false])) a2 (.tup [V.int (A0 : Int), V.bl true])) a3 (.tup [V.int (A1 : Int), V.bl false])) a4 (.lst [V.ref a1, V.ref a2, V.ref a3])) a5 (.tup [V.int (A2 : Int), V.bl false])) a6 (.tup [V.int (A1 : Int), V.bl true])) a7 (.lst [V.ref a5, V.ref a6])) a8 (.lst ([V.ref a1, V.ref a2, V.ref a3] ++ [V.ref a5, V.ref a6]))) a1 = some (.tup [V.int (A0 : Int), V.bl false]) := by fail "la"
    have b2 : (upd (upd (upd (upd (upd (upd (upd (upd H' a1 (.tup [V.int (A0 : Int), V.bl false])) a2 (.tup [V.int (A0 : Int), V.bl true])) a3 (.tup [V.int (A1 : Int), V.bl false])) a4 (.lst [V.ref a1, V.ref a2, V.ref a3])) a5 (.tup [V.int (A2 : Int), V.bl false])) a6 (.tup [V.int (A1 : Int), V.bl true])) a7 (.lst [V.ref a5, V.ref a6])) a8 (.lst ([V.ref a1, V.ref a2, V.ref a3] ++ [V.ref a5, V.ref a6]))) a2 = some (.tup [V.int (A0 : Int), V.bl true]) := by fail "la"
    have b3 : (upd (upd (upd (upd (upd (upd (upd (upd H' a1 (.tup [V.int (A0 : Int), V.bl false])) a2 (.tup [V.int (A0 : Int), V.bl true])) a3 (.tup [V.int (A1 : Int), V.bl false])) a4 (.lst [V.ref a1, V.ref a2, V.ref a3])) a5 (.tup [V.int (A2 : Int), V.bl false])) a6 (.tup [V.int (A1 : Int), V.bl true])) a7 (.lst [V.ref a5, V.ref a6])) a8 (.lst ([V.ref a1, V.ref a2, V.ref a3] ++ [V.ref a5, V.ref a6]))) a3 = some (.tup [V.int (A1 : Int), V.bl false]) := by fail "la"
    have b5 : (upd (upd (upd (upd (upd (upd (upd (upd H' a1 (.tup [V.int (A0 : Int), V.bl false])) a2 (.tup [V.int (A0 : Int), V.bl true])) a3 (.tup [V.int (A1 : Int), V.bl false])) a4 (.lst [V.ref a1, V.ref a2, V.ref a3])) a5 (.tup [V.int (A2 : Int), V.bl false])) a6 (.tup [V.int (A1 : Int), V.bl true])) a7 (.lst [V.ref a5, V.ref a6])) a8 (.lst ([V.ref a1, V.ref a2, V.ref a3] ++ [V.ref a5, V.ref a6]))) a5 = some (.tup [V.int (A2 : Int), V.bl false]) := by fail "la"
    have b6 : (upd (upd (upd (upd (upd (upd (upd (upd H' a1 (.tup [V.int (A0 : Int), V.bl false])) a2 (.tup [V.int (A0 : Int), V.bl true])) a3 (.tup [V.int (A1 : Int), V.bl false])) a4 (.lst [V.ref a1, V.ref a2, V.ref a3])) a5 (.tup [V.int (A2 : Int), V.bl false])) a6 (.tup [V.int (A1 : Int), V.bl true])) a7 (.lst [V.ref a5, V.ref a6])) a8 (.lst ([V.ref a1, V.ref a2, V.ref a3] ++ [V.ref a5, V.ref a6]))) a6 = some (.tup [V.int (A1 : Int), V.bl true]) := by fail "la"
    have b8 : (upd (upd (upd (upd (upd (upd (upd (upd H' a1 (.tup [V.int (A0 : Int), V.bl false])) a2 (.tup [V.int (A0 : Int), V.bl true])) a3 (.tup [V.int (A1 : Int), V.bl false])) a4 (.lst [V.ref a1, V.ref a2, V.ref a3])) a5 (.tup [V.int (A2 : Int), V.bl false])) a6 (.tup [V.int (A1 : Int), V.bl true])) a7 (.lst [V.ref a5, V.ref a6])) a8 (.lst ([V.ref a1, V.ref a2, V.ref a3] ++ [V.ref a5, V.ref a6]))) a8 = some (.lst (refs [a1, a2, a3, a5, a6])) := upd_same
    generalize upd (upd (upd (upd (upd (upd (upd (upd H' a1 (.tup [V.int (A0 : Int), V.bl false])) a2 (.tup [V.int (A0 : Int), V.bl true])) a3 (.tup [V.int (A1 : Int), V.bl false])) a4 (.lst [V.ref a1, V.ref a2, V.ref a3])) a5 (.tup [V.int (A2 : Int), V.bl false])) a6 (.tup [V.int (A1 : Int), V.bl true])) a7 (.lst [V.ref a5, V.ref a6])) a8 (.lst ([V.ref a1, V.ref a2, V.ref a3] ++ [V.ref a5, V.ref a6])) = G6 at SS b1 b2 b3 b5 b6 b8 ⊢
    have us6 := us.stay SS
    refine st_neT (SqL.of (SS _ _ gpt0)) (SqL.of b8) (tp0.mono fun a e x => SS _ _ x) (.cons b1 (.cons b2 (.cons b3 (.cons b5 (.cons b6 .nil))))) ?_
    fail "go"
    refine st_callE ?_
    fail "go"
    refine ⟨f, rfl, d, lb, bts ns, _, rfl, us6.dr, us6.dl, fun H7 hB7 dl7 => ?_⟩
    rw [e3]
    have sT7 : SameT H H7 := fun a o e n => hB7 a o (fun z => by
      rw [z] at e
      obtain ⟨ps, r⟩ := hd1 o e
      exact n ps r) (us6.same a o e n)
    obtain ⟨dx6, gd6, _⟩ := id us6.dl
    have tb7 : Tabs TT_drawer_of H7 := ⟨TabAt.but us6.tb.1 hB7 gd6, us6.tb.2⟩
    fail "go"
    refine ⟨l, 3, ns, rfl, hl.stayT sT7, ?_⟩
    rw [gd]
    fail "go"
    refine ⟨A3, rfl, ?_⟩
    fail "go"
    intro y dy hy hdy hne2
    refine ⟨y, 2, rfl, by decide, by decide, dy, upd_same, fun H8 hB8 sg8 => ⟨rfl, ?_⟩⟩
    have S8 : Same H7 H8 := But.same (same_made hy hdy) hB8 hy
    have sg8 : Sg K CD_M H8 y 2 P0 := sg8
    obtain ⟨dy8, ly8, as8, gy8, _⟩ := id sg8
    fail "go"
    refine st_mdN ?_
    fail "go"
    refine st_md1 (d := MK.sg) gy8 lk_no ?_
    fail "go"
    rename_i p9 hp9
    have S9 := same_new hp9 (.tup [V.int 0, V.int 1, V.int 0])
    refine ⟨y, p9, .non, 2, P0, ⟨0, 1, 0⟩, rfl, sg8.stay S9, kq0, upd_same, lkr (by decide) (by decide) (by decide), .inr ⟨nq0, (sq0 0).2, .inl ⟨rfl, fun q9 H9 hB9 sg9 hq9 => ?_⟩⟩⟩
    rw [(sq0 0).1] at sg9
    have sg9 : Sg K CD_M H9 y 2 P1 := sg9
    obtain ⟨dy9, ly9, as9, gy9, _⟩ := id sg9
    fail "go"
    rename_i p10 hp10
    refine st_eqP (same_new hp10 _ _ _ hq9) upd_same ?_
    have S10 := same_new hp10 (.tup [V.int 0, V.bl false])
    have sg10 := sg9.stay S10
    have gy10 := S10 _ _ gy9
    fail "go"
    refine st_md1 (d := MK.sg) gy10 lk_no ?_
    fail "go"
    rename_i p11 hp11
    have S11 := same_new hp11 (.tup [V.int 0, V.int 2, V.int 0])
    refine ⟨y, p11, .non, 2, P1, ⟨0, 2, 0⟩, rfl, sg10.stay S11, kq1, upd_same, lkr (by decide) (by decide) (by decide), .inr ⟨nq1, sq1, .inl ⟨rfl, fun q12 H12 hB12 sg12 hq12 => ?_⟩⟩⟩
    fail "go"
    rename_i p13 hp13
    refine st_eqP (same_new hp13 _ _ _ hq12) upd_same ?_
    have S13 := same_new hp13 (.tup [V.int 0, V.bl false])
    have nty : NT H y := noneT sT7 hy
    have yn : ∀ a o, H a = some o → (∀ ps, o ≠ .tbl ps) → a ≠ y := fun a o e n z => by
      rw [z] at e
      obtain ⟨ps, r⟩ := nty o e
      exact n ps r
    refine q _ (fun a o e n => S13 _ _ (hB12 _ _ (yn a o e n) (S11 _ _ (S10 _ _ (hB9 _ _ (yn a o e n) (S9 _ _ (S8 _ _ (sT7 a o e n)))))))) ⟨?_, tb.2⟩
    exact (TabAt.but ((TabAt.but ((tb7.1.same S8).same S9) hB9 (S9 _ _ gy8)).same S10 |>.same S11) hB12 (S11 _ _ gy10)).same S13
theorem ok_law {f : Addr} {fd : FuncData} (F : Fun K "law" "law" s_law f fd) (c__law_cell_at : Cal P w K mg base CX0 1 "_law_cell_at" ["_law_script", "_law_k"] (sp__law_cell_at K)) (c__law_mixed : Cal P w K mg base CX0 1 "_law_mixed" ["_law_draw", "_law_k"] (sp__law_mixed K)) (b_list : mg "list" = none) (c_drawer_of : Cal P w K mg base CX0 3 "drawer_of" ["numbers"] (sp_drawer_of K CD_R TT_drawer_of)) (c__law_used_up : Cal P w K mg base CX0 8 "_law_used_up" ["_law_numbers"] (sp__law_used_up K TT_drawer_of)) (c__law_right : Cal P w K mg base CX0 1 "_law_right" ["_law_found", "_law_due"] (sp__law_right K)) (c__law_bit : Cal P w K mg base CX0 1 "_law_bit" ["_law_numbers", "_law_at"] (sp__law_bit K)) (h_lam : LCal P w K mg base 2 (LD CD_R)) : FnOk P w K mg base CX0 9 f fd ["_law_script"] (sp_law K TT_drawer_of) := by
  refine F.ok sc_law (fun vs H Q E h => ?_) (fun cdv A outer s H vs Q E hr h => ?_)
  · obtain ⟨_, _, rfl, _⟩ := h
    rfl
  obtain ⟨a, ns, rfl, ha, hns, tb, q⟩ := h
  refine ⟨_, (pss_cons (ps_set (i := 1) sc_law.nd rfl (Or.inl rfl) (pe_op (op_mod) (pe_fn c__law_cell_at hr pass0 (pa_cons (pv 0) (pa_cons pe_int pa_nil))) pe_int))
      (pss_cons (ps_setCS (i := 2) rfl (Or.inl rfl) (sc := defScope s_law) ["_law_script", "_law_cut", "_law_numbers", "_law_other", "_law_handed", "_law_drawers", "_law_at", "?7", "_law_k"] ["_law_script", "_law_cut", "_law_numbers", "_law_other", "_law_handed", "_law_drawers", "_law_at", "_law_draw", "_law_k"] rfl rfl ⟨rfl, by decide +kernel, rfl, by decide +kernel, by decide +kernel, by decide +kernel, by decide +kernel⟩ (by show ("_law_draw" : Str) ∉ (["_law_script", "_law_cut", "_law_numbers", "_law_other", "_law_handed", "_law_drawers", "_law_at", "?7", "_law_k"] : List Str); decide +kernel) (by show (".0" : Str) ∉ (["_law_script", "_law_cut", "_law_numbers", "_law_other", "_law_handed", "_law_drawers", "_law_at", "?7", "_law_k"] : List Str); decide +kernel) sc_law.nd (by decide +kernel) rfl (by decide +kernel) rfl (pi_list (pe_slice (sl_list) (pv 0) (po_some pe_int) (po_some (pe_op (op_add) pe_int (pv 1))))) (fun _ _ _ _ => pif_nil) (fun _ _ _ _ => (pe_op (op_sub) (pe_op (op_mod) (pv 0) (pe_op (op_mul) pe_int (pe_op (op_pow) pe_int pe_int))) (pe_op (op_pow) pe_int pe_int))))
      (pss_cons (ps_setCS (i := 3) rfl (Or.inl rfl) (sc := defScope s_law) ["_law_script", "_law_cut", "_law_numbers", "_law_other", "_law_handed", "_law_drawers", "_law_at", "?7", "_law_k"] ["_law_script", "_law_cut", "_law_numbers", "_law_other", "_law_handed", "_law_drawers", "_law_at", "_law_draw", "_law_k"] rfl rfl ⟨rfl, by decide +kernel, rfl, by decide +kernel, by decide +kernel, by decide +kernel, by decide +kernel⟩ (by show ("_law_draw" : Str) ∉ (["_law_script", "_law_cut", "_law_numbers", "_law_other", "_law_handed", "_law_drawers", "_law_at", "?7", "_law_k"] : List Str); decide +kernel) (by show (".0" : Str) ∉ (["_law_script", "_law_cut", "_law_numbers", "_law_other", "_law_handed", "_law_drawers", "_law_at", "?7", "_law_k"] : List Str); decide +kernel) sc_law.nd (by decide +kernel) rfl (by decide +kernel) rfl (pi_list (pe_slice (sl_list) (pv 0) (po_some pe_int) (po_some pe_int))) (fun _ _ _ _ => pif_nil) (fun _ _ _ _ => (pe_fn c__law_mixed hr pass0 (pa_cons (pv 0) (pa_cons pe_int pa_nil)))))
      (pss_cons (ps_set (i := 4) sc_law.nd rfl (Or.inl rfl) (pe_lst (pa_cons (pe_callTy (call_listQ) rfl b_list boot_list (pa_cons (pv 2) pa_nil)) (pa_cons (pe_callTy (call_listQ) rfl b_list boot_list (pa_cons (pv 3) pa_nil)) pa_nil))))
      (pss_cons (ps_set (i := 5) sc_law.nd rfl (Or.inl rfl) (pe_lst (pa_cons (pe_fn c_drawer_of hr pass0 (pa_cons (pe_ix (ix_list) (pv 4) pe_int (fun _ _ => rfl)) pa_nil)) (pa_cons (pe_fn c_drawer_of hr pass0 (pa_cons (pe_ix (ix_list) (pv 4) pe_int (fun _ _ => rfl)) pa_nil)) (pa_cons (pe_fn c_drawer_of hr pass0 (pa_cons (pe_ix (ix_list) (pv 4) pe_int (fun _ _ => rfl)) pa_nil)) pa_nil)))))
      (pss_cons (ps_if (pt_cmpR (op_neD (hu_of64 hr)) (pv 4) (pe_lst (pa_cons (pv 2) (pa_cons (pv 3) pa_nil))) (nomark _)) (pss_one (ps_ret pe_bl)) pss_nil)
      (pss_cons (ps_expr (pe_bm PySem.F.plainAttrs_list PySem.F.slot_list_insert PySem.F.type_list_insert mt_insert (pe_ix (ix_list) (pv 4) pe_int (fun _ _ => rfl)) (pa_cons pe_int (pa_cons pe_int pa_nil))))
      (pss_cons (ps_expr (pe_bm0 PySem.F.plainAttrs_list PySem.F.slot_list_clear PySem.F.type_list_clear mt_clear (pe_ix (ix_list) (pv 4) pe_int (fun _ _ => rfl))))
      (pss_cons (ps_set (i := 6) sc_law.nd rfl (Or.inl rfl) (pe_lst (pa_cons pe_int (pa_cons pe_int (pa_cons pe_int pa_nil)))))
      (pss_cons (ps_for PassesOwn.never rfl (pi_list (pe_op (op_cat) (pe_slice (sl_list) (pv 0) (po_some pe_int) po_none) (pe_lst (pa_cons pe_int (pa_cons pe_int (pa_cons pe_int (pa_cons pe_int (pa_cons pe_int (pa_cons pe_int pa_nil))))))))) (pg_name (i := 7) sc_law.nd rfl (Or.inl rfl)) (pss_cons (ps_set (i := 8) sc_law.nd rfl (Or.inl rfl) (pe_op (op_mod) (pe_fn c__law_mixed hr pass0 (pa_cons (pv 7) (pa_cons pe_int pa_nil))) pe_int))
      (pss_cons (ps_if (pt_not (pt_val (pe_fn c__law_right hr pass0 (pa_cons (pe_callE h_lam hr (pe_ix (ix_list) (pv 5) (pv 8) (fun _ _ => rfl))) (pa_cons (pe_fn c__law_bit hr pass0 (pa_cons (pe_ix (ix_list) (pe_lst (pa_cons (pv 2) (pa_cons (pv 2) (pa_cons (pv 3) pa_nil)))) (pv 8) (fun _ _ => rfl)) (pa_cons (pe_ix (ix_list) (pv 6) (pv 8) (fun _ _ => rfl)) pa_nil))) pa_nil))))) (pss_one (ps_ret pe_bl)) pss_nil)
      (pss_one (ps_lput (pv 6) (pv 8) (pe_op (op_add) (pe_ix (ix_list) (pv 6) (pv 8) (fun _ _ => rfl)) pe_int) rfl)))))
      (pss_one (ps_ret (pe_and (pe_fn c__law_used_up hr pass0 (pa_cons (pv 2) pa_nil)) (pe_one (pe_fn c__law_used_up hr pass0 (pa_cons (pe_lst (pa_cons pe_int (pa_cons pe_int (pa_cons pe_int (pa_cons pe_int pa_nil))))) pa_nil)))))))))))))))), ?_⟩
  fail "st"
  fail "go"
  refine ⟨a, 0, ns, rfl, ha, fun c0 => ?_⟩
  fail "go"
  obtain ⟨m0, em0, hm0⟩ := emod_nat c0 (n := 13) (by decide)
  refine st_cpE ?_
  fail "go"
  rename_i p1 hp1
  rw [show (1 : Int) + c0 % 13 = ((1 + m0 : Nat) : Int) from by rw [show c0 % 13 = (m0 : Int) from em0]; push_cast; rfl] at *
  obtain ⟨ms, ems, lms⟩ := cut_intsG ns 1 (1 + m0)
  rw [show cutV (ns.map V.int) (some 1) (some ((1 + m0 : Nat) : Int)) = ms.map V.int from ems] at *
  refine st_cpAt (SqL.of upd_same) (fun i ys H' => H' = upd H p1 (.lst (ms.map V.int)) ∧ ∃ N : List Int, ys = N.map V.int ∧ N.length = i) (by rw [List.length_map]; omega) ⟨rfl, [], rfl, rfl⟩ ?_ ?_ ?_ ?_
  · rintro i ys H' ⟨_, N, rfl, e⟩
    rw [List.length_map, e]
    exact Nat.le_refl _
  · rintro i ys H' ⟨rfl, _⟩
    exact SqL.of upd_same
  · rintro i x ys H' hx ⟨rfl, N, rfl, e⟩
    obtain ⟨c, rfl⟩ := int_get hx
    fail "go"
    refine ⟨rfl, N ++ [_], by rw [List.map_append]; rfl, by rw [List.length_append, e]; rfl⟩
  · rintro ys H' ⟨rfl, N1, rfl, e⟩ ln hln
    rw [List.length_map] at e
    have n1 : N1.length ≤ 12 := by omega
    have S1 := (same_new hp1 (.lst (ms.map V.int))).trans (same_new hln (.lst (N1.map V.int)))
    have f1 : (upd (upd H p1 (.lst (ms.map V.int))) ln (.lst (N1.map V.int))) ln = some (.lst (N1.map V.int)) := upd_same
    generalize upd (upd H p1 (.lst (ms.map V.int))) ln (.lst (N1.map V.int)) = G1 at S1 f1 ⊢
    have ha1 := S1.seq ha
    fail "go"
    refine st_cpE ?_
    fail "go"
    rename_i p2 hp2
    obtain ⟨ms2, ems2, lms2⟩ := cut_intsG ns 2 9
    rw [show cutV (ns.map V.int) (some 2) (some 9) = ms2.map V.int from ems2]
    refine st_cpAt (SqL.of upd_same) (fun i ys H' => H' = upd G1 p2 (.lst (ms2.map V.int)) ∧ ∃ N : List Int, ys = N.map V.int ∧ N.length = i) (by rw [List.length_map]; omega) ⟨rfl, [], rfl, rfl⟩ ?_ ?_ ?_ ?_
    · rintro i ys H' ⟨_, N, rfl, e⟩
      rw [List.length_map, e]
      exact Nat.le_refl _
    · rintro i ys H' ⟨rfl, _⟩
      exact SqL.of upd_same
    · rintro i x ys H' hx ⟨rfl, N, rfl, e⟩
      obtain ⟨c, rfl⟩ := int_get hx
      fail "go"
      refine ⟨c, 3, rfl, by decide, fun m hm => ⟨rfl, N ++ [(m : Int)], by rw [List.map_append]; rfl, by rw [List.length_append, e]; rfl⟩⟩
    · rintro ys H' ⟨rfl, N2, rfl, e2⟩ lo hlo
      rw [List.length_map] at e2
      have n2 : N2.length ≤ 7 := by omega
      have S2 := (S1.trans (same_new hp2 (.lst (ms2.map V.int)))).trans (same_new hlo (.lst (N2.map V.int)))
      have g1 := same_new hlo (.lst (N2.map V.int)) _ _ (same_new hp2 (.lst (ms2.map V.int)) _ _ f1)
      have g2 : (upd (upd G1 p2 (.lst (ms2.map V.int))) lo (.lst (N2.map V.int))) lo = some (.lst (N2.map V.int)) := upd_same
      generalize upd (upd G1 p2 (.lst (ms2.map V.int))) lo (.lst (N2.map V.int)) = G2 at S2 g1 g2 ⊢
      fail "go"
      refine ⟨ln, N1.map V.int, rfl, .inl (SqL.of g1), fun h0 kh0 => ?_⟩
      fail "go"
      refine ⟨lo, N2.map V.int, rfl, .inl (SqL.of (same_new kh0 _ _ _ g2)), fun h1 kh1 => ?_⟩
      fail "go"
      rename_i hh khh
      have T0 := same_new kh0 (.lst (N1.map V.int))
      have T1 := same_new kh1 (.lst (N2.map V.int))
      have T2 := same_new khh (.lst [V.ref h0, V.ref h1])
      have S3 := ((S2.trans T0).trans T1).trans T2
      have i1 := T2 _ _ (T1 _ _ (T0 _ _ g1))
      have i2 := T2 _ _ (T1 _ _ (T0 _ _ g2))
      have i3 := T2 _ _ (T1 _ _ (upd_same (H := G2) (a := h0) (o := .lst (N1.map V.int))))
      have i4 := T2 _ _ (upd_same (H := upd G2 h0 (.lst (N1.map V.int))) (a := h1) (o := .lst (N2.map V.int)))
      have i5 := upd_same (H := upd (upd G2 h0 (.lst (N1.map V.int))) h1 (.lst (N2.map V.int))) (a := hh) (o := .lst [V.ref h0, V.ref h1])
      have w1 : h0 ≠ h1 := fun z => by rw [← z, upd_same] at kh1; cases kh1
      have w2 : ln ≠ h0 := ne_of_none g1 kh0
      have w3 : lo ≠ h0 := ne_of_none g2 kh0
      have w4 : ln ≠ h1 := ne_of_none (T0 _ _ g1) kh1
      have w5 : lo ≠ h1 := ne_of_none (T0 _ _ g2) kh1
      have w6 : hh ≠ h0 := fun z => by rw [z, T1 _ _ upd_same] at khh; cases khh
      have w7 : hh ≠ h1 := fun z => by rw [z, upd_same] at khh; cases khh
      generalize upd (upd (upd G2 h0 (.lst (N1.map V.int))) h1 (.lst (N2.map V.int))) hh (.lst [V.ref h0, V.ref h1]) = G3 at S3 i1 i2 i3 i4 i5 ⊢
      have sh := SqL.of (K := K) i5
      have tb3 : Tabs TT_drawer_of G3 := ⟨tb.1.same S3, tb.2⟩
      fail "go"
      refine ⟨h0, N1, rfl, SqL.of i3, by omega, tb3, fun f0 d0 b0 G4 s4 tb4 kf0 kd0 kb0 r0 l0 => ?_⟩
      have l0 : Dl CD_R G4 d0 b0 (bts N1) 0 := l0
      have j5 := s4 _ _ i5 nlst
      have sh4 := SqL.of (K := K) j5
      fail "go"
      refine ⟨h0, N1, rfl, SqL.of (s4 _ _ i3 nlst), by omega, tb4, fun f1 d1 b1 G5 s5 tb5 kf1 kd1 kb1 r1 l1 => ?_⟩
      have l1 : Dl CD_R G5 d1 b1 (bts N1) 0 := l1
      have sh5 := SqL.of (K := K) (s5 _ _ j5 nlst)
      fail "go"
      refine ⟨h1, N2, rfl, SqL.of (s5 _ _ (s4 _ _ i4 nlst) nlst), by omega, tb5, fun f2 d2 b2 G6 s6 tb6 kf2 kd2 kb2 r2 l2 => ?_⟩
      have l2 : Dl CD_R G6 d2 b2 (bts N2) 0 := l2
      have sh6 := SqL.of (K := K) (s6 _ _ (s5 _ _ j5 nlst) nlst)
      have s36 : SameT G3 G6 := (s4.trans s5).trans s6
      have k1 := s36 _ _ i1 nlst
      have k2 := s36 _ _ i2 nlst
      have k3 := s36 _ _ i3 nlst
      have k4 := s36 _ _ i4 nlst
      have k5 := s36 _ _ i5 nlst
      fail "go"
      rename_i ldr kldr pc kpc
      have U1 := same_new kldr (.lst [V.ref f0, V.ref f1, V.ref f2])
      have U2 := same_new kpc (.lst [V.ref ln, V.ref lo])
      have m3 := U2 _ _ (U1 _ _ k3)
      have m4 := U2 _ _ (U1 _ _ k4)
      have m5 := U2 _ _ (U1 _ _ k5)
      have m7 := upd_same (H := upd G6 ldr (.lst [V.ref f0, V.ref f1, V.ref f2])) (a := pc) (o := .lst [V.ref ln, V.ref lo])
      have sT6 : SameT H G6 := fun x o e n => s36 x o (S3 _ _ e) n
      have r06 := (Dr.t r0 s5).t s6
      have r16 := Dr.t r1 s6
      have l06 := (Dl.t l0 s5).t s6
      have l16 := Dl.t l1 s6
      have w6a : Lw CD_R TT_drawer_of ln lo ldr f0 f1 f2 d0 d1 d2 b0 b1 b2 N1 N2 (min 0 (bts N1).length) (min 0 (bts N1).length) (min 0 (bts N2).length) H (upd (upd G6 ldr (.lst [V.ref f0, V.ref f1, V.ref f2])) pc (.lst [V.ref ln, V.ref lo])) := by
        rw [Nat.zero_min, Nat.zero_min]
        exact ⟨fun x o e n => U2 _ _ (U1 _ _ (sT6 x o e n)), ⟨(tb6.1.same U1).same U2, tb6.2⟩, U2 _ _ (U1 _ _ k1), U2 _ _ (U1 _ _ k2), U2 _ _ upd_same, (r06.stay U1).stay U2, (r16.stay U1).stay U2, (r2.stay U1).stay U2, (l06.stay U1).stay U2, (l16.stay U1).stay U2, (l2.stay U1).stay U2⟩
      generalize upd (upd G6 ldr (.lst [V.ref f0, V.ref f1, V.ref f2])) pc (.lst [V.ref ln, V.ref lo]) = G7 at m3 m4 m5 m7 w6a ⊢
      have q3h : ldr ≠ h0 := (ne_of_none k3 kldr).symm
      have q3h1 : ldr ≠ h1 := (ne_of_none k4 kldr).symm
      obtain ⟨dd0, ed0, eb0, el0⟩ := id l0
      obtain ⟨dd1, ed1, eb1, el1⟩ := id l1
      obtain ⟨dd2, ed2, eb2, el2⟩ := id l2
      have nb00 : b0 ≠ h0 := (ne_of_none i3 kb0).symm
      have nb01 : b0 ≠ h1 := (ne_of_none i4 kb0).symm
      have nb10 : b1 ≠ h0 := (ne_of_none (s4 _ _ i3 nlst) kb1).symm
      have nb11 : b1 ≠ h1 := (ne_of_none (s4 _ _ i4 nlst) kb1).symm
      have nb20 : b2 ≠ h0 := (ne_of_none (s5 _ _ (s4 _ _ i3 nlst) nlst) kb2).symm
      have nb21 : b2 ≠ h1 := (ne_of_none (s5 _ _ (s4 _ _ i4 nlst) nlst) kb2).symm
      have e10 : d1 ≠ d0 := (ne_of_none ed0 kd1).symm
      have e20 : d2 ≠ d0 := (ne_of_none (s5 _ _ ed0 nins) kd2).symm
      have e21 : d2 ≠ d1 := (ne_of_none ed1 kd2).symm
      have e01 := e10.symm
      have e02 := e20.symm
      have e12 := e21.symm
      have nh0 : NT H h0 := none0 (none_of S2 kh0)
      have nh1 : NT H h1 := none0 (none_of (S2.trans T0) kh1)
      have nd0 : NT H d0 := none0 (none_of S3 kd0)
      have nd1 : NT H d1 := noneT (fun x o e n => s4 x o (S3 _ _ e) n) kd1
      have nd2 : NT H d2 := noneT (fun x o e n => s5 x o (s4 x o (S3 _ _ e) n) n) kd2
      refine st_neLL (SqL.of m5) (SqL.of m7) (SqL.of m3) (SqL.of m4) (SqL.of w6a.hn) (SqL.of w6a.ho) ?_
      have sh7 := SqL.of (K := K) m5
      fail "go"
      refine ⟨h0, _, _, 0, rfl, rfl, m3, Nat.zero_le _, by rw [List.length_map]; omega, ?_⟩
      have hB8 := But.upd (f := h0) (H := G7) (o := .lst ((N1.map V.int).take 0 ++ V.int 1 :: (N1.map V.int).drop 0))
      have w8 := w6a.butL hB8 m3 nh0 w2 w3 q3h nb00 nb10 nb20
      have o4 := hB8 _ _ w1.symm m4
      have o5 := hB8 _ _ w6 m5
      generalize upd G7 h0 (.lst ((N1.map V.int).take 0 ++ V.int 1 :: (N1.map V.int).drop 0)) = G8 at hB8 w8 o4 o5 ⊢
      have sh8 := SqL.of (K := K) o5
      fail "go"
      refine st_clear o4 ?_
      have hB9 := But.upd (f := h1) (H := G8) (o := .lst [])
      have w9 := w8.butL hB9 o4 nh1 w4 w5 q3h1 nb01 nb11 nb21
      generalize upd G8 h1 (.lst []) = G9 at hB9 w9 ⊢
      fail "go"
      rename_i la kla
      have X1 := same_new kla (.lst [V.int 0, V.int 0, V.int 0])
      have w10 := w9.stay X1
      have hat0 : (upd G9 la (.lst [V.int 0, V.int 0, V.int 0])) la = some (.lst (vn [0, 0, 0])) := upd_same
      have q1 : ln ≠ la := ne_of_none w9.hn kla
      have q2 : lo ≠ la := ne_of_none w9.ho kla
      have q3 : ldr ≠ la := ne_of_none w9.hdr kla
      have q4 : b0 ≠ la := ne_of_none w9.l0.lst kla
      have q5 : b1 ≠ la := ne_of_none w9.l1.lst kla
      have q6 : b2 ≠ la := ne_of_none w9.l2.lst kla
      have nla : NT H la := noneT w9.same kla
      generalize upd G9 la (.lst [V.int 0, V.int 0, V.int 0]) = G10 at w10 hat0 ⊢
      have ha10 := ha.stayT w10.same
      fail "go"
      refine st_forE ?_
      fail "go"
      rename_i px kpx py kpy
      obtain ⟨ms3, ems3, lms3⟩ := cut_intsT ns
      rw [show cutV (ns.map V.int) (some 1) none = ms3.map V.int from ems3] at kpy ⊢
      refine st_cat (same_new kpy _ _ _ upd_same) upd_same (by rw [List.length_map]; show _ + 6 ≤ 1000; omega) fun lz klz => ?_
      have Y1 := same_new kpx (.lst (ms3.map V.int))
      have Y2 := same_new kpy (.lst [V.int 0, V.int 1, V.int 2, V.int 3, V.int 4, V.int 5])
      have Y3 := same_new klz (.lst (ms3.map V.int ++ [V.int 0, V.int 1, V.int 2, V.int 3, V.int 4, V.int 5]))
      have w11 := ((w10.stay Y1).stay Y2).stay Y3
      have hat1 := Y3 _ _ (Y2 _ _ (Y1 _ _ hat0))
      have nzl : lz ≠ la := (ne_of_none (Y2 _ _ (Y1 _ _ hat0)) klz).symm
      have hz0 : (upd (upd (upd G10 px (.lst (ms3.map V.int))) py (.lst [V.int 0, V.int 1, V.int 2, V.int 3, V.int 4, V.int 5])) lz (.lst (ms3.map V.int ++ [V.int 0, V.int 1, V.int 2, V.int 3, V.int 4, V.int 5]))) lz = some (.lst ((ms3 ++ [0, 1, 2, 3, 4, 5]).map V.int)) := by
        rw [upd_same, List.map_append]
        rfl
      generalize upd (upd (upd G10 px (.lst (ms3.map V.int))) py (.lst [V.int 0, V.int 1, V.int 2, V.int 3, V.int 4, V.int 5])) lz (.lst (ms3.map V.int ++ [V.int 0, V.int 1, V.int 2, V.int 3, V.int 4, V.int 5])) = G11 at w11 hat1 hz0 ⊢
      refine st_forAt (SqL.of hz0) (fun i σ H' => ∃ (u v : Option V) (a0 a1 a2 : Nat), σ = [some (.ref a), some (.int (c0 % 13)), some (.ref ln), some (.ref lo), some (.ref hh), some (.ref ldr), some (.ref la), u, v] ∧ Lw CD_R TT_drawer_of ln lo ldr f0 f1 f2 d0 d1 d2 b0 b1 b2 N1 N2 (min a0 (bts N1).length) (min a1 (bts N1).length) (min a2 (bts N2).length) H H' ∧ H' la = some (.lst (vn [a0, a1, a2])) ∧ H' lz = some (.lst ((ms3 ++ [0, 1, 2, 3, 4, 5]).map V.int))) ⟨none, none, 0, 0, 0, rfl, w11, hat1, hz0⟩ ?_ ?_ ?_
      · rintro i σ H' _ ⟨u, v, a0, a1, a2, _, _, _, hz⟩
        exact SqL.of hz
      · rintro i x σ H' hx ⟨u, v, a0, a1, a2, rfl, w, hat, hz⟩
        obtain ⟨c, rfl⟩ := int_get hx
        have sdr := SqL.of (K := K) w.hdr
        fail "go"
        refine ⟨c, 5, rfl, by decide, fun m hm => ?_⟩
        fail "go"
        obtain ⟨k, ek, hk⟩ := emod_nat (m : Int) (n := 3) (by decide)
        rw [show (m : Int) % 3 = (k : Int) from ek]
        match k, hk with
        | 0, hk =>
          fail "go"
          refine st_callE ?_
          fail "go"
          refine ⟨f0, rfl, d0, b0, bts N1, _, rfl, w.r0, w.l0, fun H3 hB3 dl3 => ?_⟩
          rw [bit_min]
          rw [nxt_min] at dl3
          have w3 := w.draw0 hB3 dl3 e10 e20 nd0
          have hat3 := hB3 _ _ (ne_ins w.l0 hat) hat
          have hz3 := hB3 _ _ (ne_ins w.l0 hz) hz
          fail "go"
          rename_i pl kpl
          have V3 := same_new kpl (.lst [V.ref ln, V.ref ln, V.ref lo])
          have w4 := w3.stay V3
          have hat4 := V3 _ _ hat3
          have hz4 := V3 _ _ hz3
          generalize upd H3 pl (.lst [V.ref ln, V.ref ln, V.ref lo]) = H4 at w4 hat4 hz4 ⊢
          have sat4 := SqL.of (K := K) hat4
          refine ⟨ln, a0, N1, rfl, SqL.of w4.hn, ?_⟩
          fail "go"
          refine ⟨(bts N1).getD a0 0, rfl, ?_⟩
          fail "go"
          refine st_lput ?_
          fail "go"
          refine ⟨la, _, 0, rfl, rfl, hat4, by show 0 < 3; decide, ?_⟩
          have hB5 : But la H4 (upd H4 la (.lst ((vn [a0, a1, a2]).set 0 (V.int ((a0 : Int) + 1))))) := But.upd
          refine ⟨_, _, a0 + 1, a1, a2, rfl, w4.butL hB5 hat4 nla q1 q2 q3 q4 q5 q6, ?_, hB5 _ _ nzl hz4⟩
          rw [upd_same]
          rfl
        | 1, hk =>
          fail "go"
          refine st_callE ?_
          fail "go"
          refine ⟨f1, rfl, d1, b1, bts N1, _, rfl, w.r1, w.l1, fun H3 hB3 dl3 => ?_⟩
          rw [bit_min]
          rw [nxt_min] at dl3
          have w3 := w.draw1 hB3 dl3 e01 e21 nd1
          have hat3 := hB3 _ _ (ne_ins w.l1 hat) hat
          have hz3 := hB3 _ _ (ne_ins w.l1 hz) hz
          fail "go"
          rename_i pl kpl
          have V3 := same_new kpl (.lst [V.ref ln, V.ref ln, V.ref lo])
          have w4 := w3.stay V3
          have hat4 := V3 _ _ hat3
          have hz4 := V3 _ _ hz3
          generalize upd H3 pl (.lst [V.ref ln, V.ref ln, V.ref lo]) = H4 at w4 hat4 hz4 ⊢
          have sat4 := SqL.of (K := K) hat4
          refine ⟨ln, a1, N1, rfl, SqL.of w4.hn, ?_⟩
          fail "go"
          refine ⟨(bts N1).getD a1 0, rfl, ?_⟩
          fail "go"
          refine st_lput ?_
          fail "go"
          refine ⟨la, _, 1, rfl, rfl, hat4, by show 1 < 3; decide, ?_⟩
          have hB5 : But la H4 (upd H4 la (.lst ((vn [a0, a1, a2]).set 1 (V.int ((a1 : Int) + 1))))) := But.upd
          refine ⟨_, _, a0, a1 + 1, a2, rfl, w4.butL hB5 hat4 nla q1 q2 q3 q4 q5 q6, ?_, hB5 _ _ nzl hz4⟩
          rw [upd_same]
          rfl
        | 2, hk =>
          fail "go"
          refine st_callE ?_
          fail "go"
          refine ⟨f2, rfl, d2, b2, bts N2, _, rfl, w.r2, w.l2, fun H3 hB3 dl3 => ?_⟩
          rw [bit_min]
          rw [nxt_min] at dl3
          have w3 := w.draw2 hB3 dl3 e02 e12 nd2
          have hat3 := hB3 _ _ (ne_ins w.l2 hat) hat
          have hz3 := hB3 _ _ (ne_ins w.l2 hz) hz
          fail "go"
          rename_i pl kpl
          have V3 := same_new kpl (.lst [V.ref ln, V.ref ln, V.ref lo])
          have w4 := w3.stay V3
          have hat4 := V3 _ _ hat3
          have hz4 := V3 _ _ hz3
          generalize upd H3 pl (.lst [V.ref ln, V.ref ln, V.ref lo]) = H4 at w4 hat4 hz4 ⊢
          have sat4 := SqL.of (K := K) hat4
          refine ⟨lo, a2, N2, rfl, SqL.of w4.ho, ?_⟩
          fail "go"
          refine ⟨(bts N2).getD a2 0, rfl, ?_⟩
          fail "go"
          refine st_lput ?_
          fail "go"
          refine ⟨la, _, 2, rfl, rfl, hat4, by show 2 < 3; decide, ?_⟩
          have hB5 : But la H4 (upd H4 la (.lst ((vn [a0, a1, a2]).set 2 (V.int ((a2 : Int) + 1))))) := But.upd
          refine ⟨_, _, a0, a1, a2 + 1, rfl, w4.butL hB5 hat4 nla q1 q2 q3 q4 q5 q6, ?_, hB5 _ _ nzl hz4⟩
          rw [upd_same]
          rfl
        | k + 3, hk => exact absurd hk (by omega)
      · rintro σ H' ⟨u, v, a0, a1, a2, rfl, w, hat, hz⟩
        fail "go"
        refine ⟨ln, N1, rfl, SqL.of w.hn, by omega, w.tb, fun H12 sT12 tb12 => ?_⟩
        fail "go"
        rename_i pe kpe
        refine ⟨pe, [1, 0, 1, 1], rfl, SqL.of upd_same, by decide, ⟨tb12.1.same (same_new kpe _), tb12.2⟩, fun H13 _ _ => ?_⟩
        fail "go"
        exact q _
end
theorem all_mk {l : PySem.W.OpenLaw} {w : World} {K : PySem.W.Frag} {h : Heap} {mg : Str → Option Value} {fa f0 f1 f2 f3 f4 f5 f6 f7 f8 f9 f10 f11 f12 f13 f14 f15 f16 f17 f18 f19 f20 f21 f22 f23 f24 f25 f26 f27 f28 f29 f30 f31 f32 f33 f34 : Addr} {od0 an0 od1 an1 od2 an2 od3 an3 od4 an4 od5 an5 od6 an6 od7 an7 od8 an8 od9 an9 od10 an10 od11 an11 od12 an12 od13 an13 od14 an14 od15 an15 od16 an16 od17 an17 od18 an18 od19 an19 od20 an20 od21 an21 od22 an22 od23 an23 od24 an24 od25 an25 od26 an26 od27 an27 od28 an28 od29 an29 od30 an30 od31 an31 od32 an32 od33 an33 od34 an34 : Option Addr} {sl0 sl1 sl2 sl3 sl4 sl5 sl6 sl7 sl8 sl9 sl10 sl11 sl12 sl13 sl14 sl15 sl16 sl17 sl18 sl19 sl20 sl21 sl22 sl23 sl24 sl25 sl26 sl27 sl28 sl29 sl30 sl31 sl32 sl33 sl34 : Array (Option Value)} {oc0 kV0 dc0 pm0 ct0 cd0 oc1 kV1 dc1 pm1 ct1 cd1 oc2 kV2 dc2 pm2 ct2 cd2 oc3 kV3 dc3 pm3 ct3 oc4 kV4 dc4 pm4 ct4 cd4 oc5 kV5 dc5 pm5 ct5 cd5 oc6 kV6 dc6 pm6 ct6 cd6 oc7 kV7 dc7 pm7 ct7 cd7 oc8 kV8 dc8 pm8 ct8 cd8 oc9 kV9 dc9 pm9 ct9 cd9 oc10 kV10 dc10 pm10 ct10 cd10 oc11 kV11 dc11 pm11 ct11 cd11 oc12 kV12 dc12 pm12 ct12 cd12 oc13 kV13 dc13 pm13 ct13 cd13 oc14 kV14 dc14 pm14 ct14 cd14 oc15 kV15 dc15 pm15 ct15 cd15 oc16 kV16 dc16 pm16 ct16 cd16 oc17 kV17 dc17 pm17 ct17 cd17 oc18 kV18 dc18 pm18 ct18 cd18 oc19 kV19 dc19 pm19 ct19 cd19 oc20 kV20 dc20 pm20 ct20 cd20 oc21 kV21 dc21 pm21 ct21 cd21 oc22 kV22 dc22 pm22 ct22 cd22 oc23 kV23 dc23 pm23 ct23 cd23 oc24 kV24 dc24 pm24 ct24 cd24 oc25 kV25 dc25 pm25 ct25 cd25 oc26 kV26 dc26 pm26 ct26 cd26 oc27 kV27 dc27 pm27 ct27 cd27 oc28 kV28 dc28 pm28 ct28 cd28 oc29 kV29 dc29 pm29 ct29 cd29 oc30 kV30 dc30 pm30 ct30 cd30 oc31 kV31 dc31 pm31 ct31 cd31 oc32 kV32 dc32 pm32 ct32 cd32 oc33 kV33 dc33 pm33 ct33 cd33 oc34 kV34 dc34 pm34 ct34 cd34 : Value} {dT30 : Addr} {dv30 : Value} {do30 : Option Addr} {dn30 : Nat} {dsl30 : Array (Option Value)} {cc_drawer_of TT_drawer_of : Addr} {t_MOST_WIRES t_XS t_ZS t_MINUS : Tok} {C_Span C_Draws C_Signs C_Machine : Addr} {C_NoWires C_NoProduct C_NoRow C_NoLook : Addr} (KX : K.In h) (G : h.Ns mainGlobals mg) (hfa : mg "law" = some (.ref fa))
    (v_Span : PySem.W.nsIn K mainGlobals "Span" = some (some (.ref C_Span)))
    (v_Draws : PySem.W.nsIn K mainGlobals "Draws" = some (some (.ref C_Draws)))
    (v_Signs : PySem.W.nsIn K mainGlobals "Signs" = some (some (.ref C_Signs)))
    (v_Machine : PySem.W.nsIn K mainGlobals "Machine" = some (some (.ref C_Machine)))
    (mt_Machine___init__ : PySem.W.findIn K (.ref C_Machine) "__init__" = some (some (.ref f5)))
    (if_5 : PySem.W.isFn K (.ref f5) = true)
    (mt_Draws___init__ : PySem.W.findIn K (.ref C_Draws) "__init__" = some (some (.ref f2)))
    (if_2 : PySem.W.isFn K (.ref f2) = true)
    (mt_Span_left_of : PySem.W.findIn K (.ref C_Span) "left_of" = some (some (.ref f7)))
    (if_7 : PySem.W.isFn K (.ref f7) = true)
    (mt_Span_take : PySem.W.findIn K (.ref C_Span) "take" = some (some (.ref f10)))
    (if_10 : PySem.W.isFn K (.ref f10) = true)
    (mt_Span_parts_of : PySem.W.findIn K (.ref C_Span) "parts_of" = some (some (.ref f8)))
    (if_8 : PySem.W.isFn K (.ref f8) = true)
    (mt_Span___init__ : PySem.W.findIn K (.ref C_Span) "__init__" = some (some (.ref f11)))
    (if_11 : PySem.W.isFn K (.ref f11) = true)
    (mt_Draws_draw : PySem.W.findIn K (.ref C_Draws) "draw" = some (some (.ref f28)))
    (if_28 : PySem.W.isFn K (.ref f28) = true)
    (mt_Signs_sure_value : PySem.W.findIn K (.ref C_Signs) "sure_value" = some (some (.ref f22)))
    (if_22 : PySem.W.isFn K (.ref f22) = true)
    (mt_Signs_settle : PySem.W.findIn K (.ref C_Signs) "settle" = some (some (.ref f23)))
    (if_23 : PySem.W.isFn K (.ref f23) = true)
    (mt_Signs___init__ : PySem.W.findIn K (.ref C_Signs) "__init__" = some (some (.ref f6)))
    (if_6 : PySem.W.isFn K (.ref f6) = true)
    (mt_Signs_look : PySem.W.findIn K (.ref C_Signs) "look" = some (some (.ref f30)))
    (if_30 : PySem.W.isFn K (.ref f30) = true)
    (a0 : PySem.W.nsIn K mainGlobals "_law_cell_at" = some (some (.ref f0)))
    (l0 : K.lookup f0 = some ⟨oc0, od0, .func (PySem.W.fnOf "_law_cell_at" "_law_cell_at" (defArgs s__law_cell_at) (defBody s__law_cell_at) (defScope s__law_cell_at) .none kV0 dc0 pm0 an0 cd0 ct0), sl0⟩)
    (q0 : PySem.W.codeIn K cd0 "_law_cell_at" = true)
    (k0 : PySem.W.keepIn K (.ref f0) = true)
    (a1 : PySem.W.nsIn K mainGlobals "_law_mixed" = some (some (.ref f1)))
    (l1 : K.lookup f1 = some ⟨oc1, od1, .func (PySem.W.fnOf "_law_mixed" "_law_mixed" (defArgs s__law_mixed) (defBody s__law_mixed) (defScope s__law_mixed) .none kV1 dc1 pm1 an1 cd1 ct1), sl1⟩)
    (q1 : PySem.W.codeIn K cd1 "_law_mixed" = true)
    (k1 : PySem.W.keepIn K (.ref f1) = true)
    (l2 : K.lookup f2 = some ⟨oc2, od2, .func (PySem.W.fnOf "__init__" "Draws.__init__" (defArgs s_Draws___init__) (defBody s_Draws___init__) (defScope s_Draws___init__) .none kV2 dc2 pm2 an2 cd2 ct2), sl2⟩)
    (q2 : PySem.W.codeIn K cd2 "Draws.__init__" = true)
    (k2 : PySem.W.keepIn K (.ref f2) = true)
    (a3 : PySem.W.nsIn K mainGlobals "drawer_of" = some (some (.ref f3)))
    (l3 : K.lookup f3 = some ⟨oc3, od3, .func (PySem.W.fnOf "drawer_of" "drawer_of" (defArgs s_drawer_of) (defBody s_drawer_of) (defScope s_drawer_of) .none kV3 dc3 pm3 an3 (.ref cc_drawer_of) ct3), sl3⟩)
    (q3 : PySem.W.codeIn K (.ref cc_drawer_of) "drawer_of" = true)
    (hc_drawer_of : PySem.W.codeHdIn K cc_drawer_of TT_drawer_of = true)
    (k3 : PySem.W.keepIn K (.ref f3) = true)
    (a4 : PySem.W.nsIn K mainGlobals "is_whole_number" = some (some (.ref f4)))
    (l4 : K.lookup f4 = some ⟨oc4, od4, .func (PySem.W.fnOf "is_whole_number" "is_whole_number" (defArgs s_is_whole_number) (defBody s_is_whole_number) (defScope s_is_whole_number) .none kV4 dc4 pm4 an4 cd4 ct4), sl4⟩)
    (q4 : PySem.W.codeIn K cd4 "is_whole_number" = true)
    (k4 : PySem.W.keepIn K (.ref f4) = true)
    (l5 : K.lookup f5 = some ⟨oc5, od5, .func (PySem.W.fnOf "__init__" "Machine.__init__" (defArgs s_Machine___init__) (defBody s_Machine___init__) (defScope s_Machine___init__) .none kV5 dc5 pm5 an5 cd5 ct5), sl5⟩)
    (q5 : PySem.W.codeIn K cd5 "Machine.__init__" = true)
    (k5 : PySem.W.keepIn K (.ref f5) = true)
    (l6 : K.lookup f6 = some ⟨oc6, od6, .func (PySem.W.fnOf "__init__" "Signs.__init__" (defArgs s_Signs___init__) (defBody s_Signs___init__) (defScope s_Signs___init__) .none kV6 dc6 pm6 an6 cd6 ct6), sl6⟩)
    (q6 : PySem.W.codeIn K cd6 "Signs.__init__" = true)
    (k6 : PySem.W.keepIn K (.ref f6) = true)
    (l7 : K.lookup f7 = some ⟨oc7, od7, .func (PySem.W.fnOf "left_of" "Span.left_of" (defArgs s_Span_left_of) (defBody s_Span_left_of) (defScope s_Span_left_of) .none kV7 dc7 pm7 an7 cd7 ct7), sl7⟩)
    (q7 : PySem.W.codeIn K cd7 "Span.left_of" = true)
    (k7 : PySem.W.keepIn K (.ref f7) = true)
    (l8 : K.lookup f8 = some ⟨oc8, od8, .func (PySem.W.fnOf "parts_of" "Span.parts_of" (defArgs s_Span_parts_of) (defBody s_Span_parts_of) (defScope s_Span_parts_of) .none kV8 dc8 pm8 an8 cd8 ct8), sl8⟩)
    (q8 : PySem.W.codeIn K cd8 "Span.parts_of" = true)
    (k8 : PySem.W.keepIn K (.ref f8) = true)
    (a9 : PySem.W.nsIn K mainGlobals "lowest_bit" = some (some (.ref f9)))
    (l9 : K.lookup f9 = some ⟨oc9, od9, .func (PySem.W.fnOf "lowest_bit" "lowest_bit" (defArgs s_lowest_bit) (defBody s_lowest_bit) (defScope s_lowest_bit) .none kV9 dc9 pm9 an9 cd9 ct9), sl9⟩)
    (q9 : PySem.W.codeIn K cd9 "lowest_bit" = true)
    (k9 : PySem.W.keepIn K (.ref f9) = true)
    (l10 : K.lookup f10 = some ⟨oc10, od10, .func (PySem.W.fnOf "take" "Span.take" (defArgs s_Span_take) (defBody s_Span_take) (defScope s_Span_take) .none kV10 dc10 pm10 an10 cd10 ct10), sl10⟩)
    (q10 : PySem.W.codeIn K cd10 "Span.take" = true)
    (k10 : PySem.W.keepIn K (.ref f10) = true)
    (l11 : K.lookup f11 = some ⟨oc11, od11, .func (PySem.W.fnOf "__init__" "Span.__init__" (defArgs s_Span___init__) (defBody s_Span___init__) (defScope s_Span___init__) .none kV11 dc11 pm11 an11 cd11 ct11), sl11⟩)
    (q11 : PySem.W.codeIn K cd11 "Span.__init__" = true)
    (k11 : PySem.W.keepIn K (.ref f11) = true)
    (a12 : PySem.W.nsIn K mainGlobals "widest" = some (some (.ref f12)))
    (l12 : K.lookup f12 = some ⟨oc12, od12, .func (PySem.W.fnOf "widest" "widest" (defArgs s_widest) (defBody s_widest) (defScope s_widest) .none kV12 dc12 pm12 an12 cd12 ct12), sl12⟩)
    (q12 : PySem.W.codeIn K cd12 "widest" = true)
    (k12 : PySem.W.keepIn K (.ref f12) = true)
    (a13 : PySem.W.nsIn K mainGlobals "bit_at" = some (some (.ref f13)))
    (l13 : K.lookup f13 = some ⟨oc13, od13, .func (PySem.W.fnOf "bit_at" "bit_at" (defArgs s_bit_at) (defBody s_bit_at) (defScope s_bit_at) .none kV13 dc13 pm13 an13 cd13 ct13), sl13⟩)
    (q13 : PySem.W.codeIn K cd13 "bit_at" = true)
    (k13 : PySem.W.keepIn K (.ref f13) = true)
    (a14 : PySem.W.nsIn K mainGlobals "places" = some (some (.ref f14)))
    (l14 : K.lookup f14 = some ⟨oc14, od14, .func (PySem.W.fnOf "places" "places" (defArgs s_places) (defBody s_places) (defScope s_places) .none kV14 dc14 pm14 an14 cd14 ct14), sl14⟩)
    (q14 : PySem.W.codeIn K cd14 "places" = true)
    (k14 : PySem.W.keepIn K (.ref f14) = true)
    (a15 : PySem.W.nsIn K mainGlobals "ones" = some (some (.ref f15)))
    (l15 : K.lookup f15 = some ⟨oc15, od15, .func (PySem.W.fnOf "ones" "ones" (defArgs s_ones) (defBody s_ones) (defScope s_ones) .none kV15 dc15 pm15 an15 cd15 ct15), sl15⟩)
    (q15 : PySem.W.codeIn K cd15 "ones" = true)
    (k15 : PySem.W.keepIn K (.ref f15) = true)
    (a16 : PySem.W.nsIn K mainGlobals "goes_beside" = some (some (.ref f16)))
    (l16 : K.lookup f16 = some ⟨oc16, od16, .func (PySem.W.fnOf "goes_beside" "goes_beside" (defArgs s_goes_beside) (defBody s_goes_beside) (defScope s_goes_beside) .none kV16 dc16 pm16 an16 cd16 ct16), sl16⟩)
    (q16 : PySem.W.codeIn K cd16 "goes_beside" = true)
    (k16 : PySem.W.keepIn K (.ref f16) = true)
    (a17 : PySem.W.nsIn K mainGlobals "letters_y" = some (some (.ref f17)))
    (l17 : K.lookup f17 = some ⟨oc17, od17, .func (PySem.W.fnOf "letters_y" "letters_y" (defArgs s_letters_y) (defBody s_letters_y) (defScope s_letters_y) .none kV17 dc17 pm17 an17 cd17 ct17), sl17⟩)
    (q17 : PySem.W.codeIn K cd17 "letters_y" = true)
    (k17 : PySem.W.keepIn K (.ref f17) = true)
    (a18 : PySem.W.nsIn K mainGlobals "times" = some (some (.ref f18)))
    (l18 : K.lookup f18 = some ⟨oc18, od18, .func (PySem.W.fnOf "times" "times" (defArgs s_times) (defBody s_times) (defScope s_times) .none kV18 dc18 pm18 an18 cd18 ct18), sl18⟩)
    (q18 : PySem.W.codeIn K cd18 "times" = true)
    (k18 : PySem.W.keepIn K (.ref f18) = true)
    (a19 : PySem.W.nsIn K mainGlobals "product_of" = some (some (.ref f19)))
    (l19 : K.lookup f19 = some ⟨oc19, od19, .func (PySem.W.fnOf "product_of" "product_of" (defArgs s_product_of) (defBody s_product_of) (defScope s_product_of) .none kV19 dc19 pm19 an19 cd19 ct19), sl19⟩)
    (q19 : PySem.W.codeIn K cd19 "product_of" = true)
    (k19 : PySem.W.keepIn K (.ref f19) = true)
    (a20 : PySem.W.nsIn K mainGlobals "signs_number" = some (some (.ref f20)))
    (l20 : K.lookup f20 = some ⟨oc20, od20, .func (PySem.W.fnOf "signs_number" "signs_number" (defArgs s_signs_number) (defBody s_signs_number) (defScope s_signs_number) .none kV20 dc20 pm20 an20 cd20 ct20), sl20⟩)
    (q20 : PySem.W.codeIn K cd20 "signs_number" = true)
    (k20 : PySem.W.keepIn K (.ref f20) = true)
    (a21 : PySem.W.nsIn K mainGlobals "made_of" = some (some (.ref f21)))
    (l21 : K.lookup f21 = some ⟨oc21, od21, .func (PySem.W.fnOf "made_of" "made_of" (defArgs s_made_of) (defBody s_made_of) (defScope s_made_of) .none kV21 dc21 pm21 an21 cd21 ct21), sl21⟩)
    (q21 : PySem.W.codeIn K cd21 "made_of" = true)
    (k21 : PySem.W.keepIn K (.ref f21) = true)
    (l22 : K.lookup f22 = some ⟨oc22, od22, .func (PySem.W.fnOf "sure_value" "Signs.sure_value" (defArgs s_Signs_sure_value) (defBody s_Signs_sure_value) (defScope s_Signs_sure_value) .none kV22 dc22 pm22 an22 cd22 ct22), sl22⟩)
    (q22 : PySem.W.codeIn K cd22 "Signs.sure_value" = true)
    (k22 : PySem.W.keepIn K (.ref f22) = true)
    (l23 : K.lookup f23 = some ⟨oc23, od23, .func (PySem.W.fnOf "settle" "Signs.settle" (defArgs s_Signs_settle) (defBody s_Signs_settle) (defScope s_Signs_settle) .none kV23 dc23 pm23 an23 cd23 ct23), sl23⟩)
    (q23 : PySem.W.codeIn K cd23 "Signs.settle" = true)
    (k23 : PySem.W.keepIn K (.ref f23) = true)
    (a24 : PySem.W.nsIn K mainGlobals "fits" = some (some (.ref f24)))
    (l24 : K.lookup f24 = some ⟨oc24, od24, .func (PySem.W.fnOf "fits" "fits" (defArgs s_fits) (defBody s_fits) (defScope s_fits) .none kV24 dc24 pm24 an24 cd24 ct24), sl24⟩)
    (q24 : PySem.W.codeIn K cd24 "fits" = true)
    (k24 : PySem.W.keepIn K (.ref f24) = true)
    (a25 : PySem.W.nsIn K mainGlobals "checked_row" = some (some (.ref f25)))
    (l25 : K.lookup f25 = some ⟨oc25, od25, .func (PySem.W.fnOf "checked_row" "checked_row" (defArgs s_checked_row) (defBody s_checked_row) (defScope s_checked_row) .none kV25 dc25 pm25 an25 cd25 ct25), sl25⟩)
    (q25 : PySem.W.codeIn K cd25 "checked_row" = true)
    (k25 : PySem.W.keepIn K (.ref f25) = true)
    (a26 : PySem.W.nsIn K mainGlobals "weight_of" = some (some (.ref f26)))
    (l26 : K.lookup f26 = some ⟨oc26, od26, .func (PySem.W.fnOf "weight_of" "weight_of" (defArgs s_weight_of) (defBody s_weight_of) (defScope s_weight_of) .none kV26 dc26 pm26 an26 cd26 ct26), sl26⟩)
    (q26 : PySem.W.codeIn K cd26 "weight_of" = true)
    (k26 : PySem.W.keepIn K (.ref f26) = true)
    (a27 : PySem.W.nsIn K mainGlobals "check_look" = some (some (.ref f27)))
    (l27 : K.lookup f27 = some ⟨oc27, od27, .func (PySem.W.fnOf "check_look" "check_look" (defArgs s_check_look) (defBody s_check_look) (defScope s_check_look) .none kV27 dc27 pm27 an27 cd27 ct27), sl27⟩)
    (q27 : PySem.W.codeIn K cd27 "check_look" = true)
    (k27 : PySem.W.keepIn K (.ref f27) = true)
    (l28 : K.lookup f28 = some ⟨oc28, od28, .func (PySem.W.fnOf "draw" "Draws.draw" (defArgs s_Draws_draw) (defBody s_Draws_draw) (defScope s_Draws_draw) .none kV28 dc28 pm28 an28 cd28 ct28), sl28⟩)
    (q28 : PySem.W.codeIn K cd28 "Draws.draw" = true)
    (k28 : PySem.W.keepIn K (.ref f28) = true)
    (a29 : PySem.W.nsIn K mainGlobals "value_drawn" = some (some (.ref f29)))
    (l29 : K.lookup f29 = some ⟨oc29, od29, .func (PySem.W.fnOf "value_drawn" "value_drawn" (defArgs s_value_drawn) (defBody s_value_drawn) (defScope s_value_drawn) .none kV29 dc29 pm29 an29 cd29 ct29), sl29⟩)
    (q29 : PySem.W.codeIn K cd29 "value_drawn" = true)
    (k29 : PySem.W.keepIn K (.ref f29) = true)
    (l30 : K.lookup f30 = some ⟨oc30, od30, .func (PySem.W.fnOf "look" "Machine.look" (defArgs s_Machine_look) (defBody s_Machine_look) (defScope s_Machine_look) (.ref dT30) kV30 dc30 pm30 an30 cd30 ct30), sl30⟩)
    (dt30 : K.lookup dT30 = some ⟨dv30, do30, .seq #[.none] dn30, dsl30⟩)
    (q30 : PySem.W.codeIn K cd30 "Machine.look" = true)
    (k30 : PySem.W.keepIn K (.ref f30) = true)
    (a31 : PySem.W.nsIn K mainGlobals "_law_bit" = some (some (.ref f31)))
    (l31 : K.lookup f31 = some ⟨oc31, od31, .func (PySem.W.fnOf "_law_bit" "_law_bit" (defArgs s__law_bit) (defBody s__law_bit) (defScope s__law_bit) .none kV31 dc31 pm31 an31 cd31 ct31), sl31⟩)
    (q31 : PySem.W.codeIn K cd31 "_law_bit" = true)
    (k31 : PySem.W.keepIn K (.ref f31) = true)
    (a32 : PySem.W.nsIn K mainGlobals "_law_right" = some (some (.ref f32)))
    (l32 : K.lookup f32 = some ⟨oc32, od32, .func (PySem.W.fnOf "_law_right" "_law_right" (defArgs s__law_right) (defBody s__law_right) (defScope s__law_right) .none kV32 dc32 pm32 an32 cd32 ct32), sl32⟩)
    (q32 : PySem.W.codeIn K cd32 "_law_right" = true)
    (k32 : PySem.W.keepIn K (.ref f32) = true)
    (a33 : PySem.W.nsIn K mainGlobals "_law_used_up" = some (some (.ref f33)))
    (l33 : K.lookup f33 = some ⟨oc33, od33, .func (PySem.W.fnOf "_law_used_up" "_law_used_up" (defArgs s__law_used_up) (defBody s__law_used_up) (defScope s__law_used_up) .none kV33 dc33 pm33 an33 cd33 ct33), sl33⟩)
    (q33 : PySem.W.codeIn K cd33 "_law_used_up" = true)
    (k33 : PySem.W.keepIn K (.ref f33) = true)
    (a34 : PySem.W.nsIn K mainGlobals "law" = some (some (.ref f34)))
    (l34 : K.lookup f34 = some ⟨oc34, od34, .func (PySem.W.fnOf "law" "law" (defArgs s_law) (defBody s_law) (defScope s_law) .none kV34 dc34 pm34 an34 cd34 ct34), sl34⟩)
    (q34 : PySem.W.codeIn K cd34 "law" = true)
    (k34 : PySem.W.keepIn K (.ref f34) = true)
    (v_MOST_WIRES : PySem.W.nsIn K mainGlobals "MOST_WIRES" = some (some (Value.int 40 t_MOST_WIRES)))
    (v_XS : PySem.W.nsIn K mainGlobals "XS" = some (some (Value.int 1 t_XS)))
    (v_ZS : PySem.W.nsIn K mainGlobals "ZS" = some (some (Value.int 2 t_ZS)))
    (v_MINUS : PySem.W.nsIn K mainGlobals "MINUS" = some (some (Value.int 0 t_MINUS)))
    (v_NoWires : PySem.W.nsIn K mainGlobals "NoWires" = some (some (.ref C_NoWires))) (x_NoWires : PySem.W.excIn K C_NoWires bmVE "ValueError.__new__" = true) (ga_NoWires : PySem.W.findIn K (.ref C_NoWires) "__getattribute__" = some (some (.builtin "BaseException.__getattribute__"))) (gt_NoWires : PySem.W.findIn K (.ref C_NoWires) "__getattr__" = some none) (ca_NoWires : PySem.W.findIn K (.ref C_NoWires) "__class__" = some (some (.builtin "object.__class__"))) (cg_NoWires : PySem.W.specialIn K (.builtin "object.__class__") "__get__" = some (some (.builtin "getset_descriptor.__get__"))) (tk_NoWires : PySem.W.takesIn K (.builtin "object.__class__") = some true) (mo_NoWires : PySem.W.mroIn K C_NoWires (.type "object") = some true) (mb_NoWires : PySem.W.mroIn K C_NoWires (.type "BaseException") = some true)
    (v_NoProduct : PySem.W.nsIn K mainGlobals "NoProduct" = some (some (.ref C_NoProduct))) (x_NoProduct : PySem.W.excIn K C_NoProduct bmVE "ValueError.__new__" = true) (ga_NoProduct : PySem.W.findIn K (.ref C_NoProduct) "__getattribute__" = some (some (.builtin "BaseException.__getattribute__"))) (gt_NoProduct : PySem.W.findIn K (.ref C_NoProduct) "__getattr__" = some none) (ca_NoProduct : PySem.W.findIn K (.ref C_NoProduct) "__class__" = some (some (.builtin "object.__class__"))) (cg_NoProduct : PySem.W.specialIn K (.builtin "object.__class__") "__get__" = some (some (.builtin "getset_descriptor.__get__"))) (tk_NoProduct : PySem.W.takesIn K (.builtin "object.__class__") = some true) (mo_NoProduct : PySem.W.mroIn K C_NoProduct (.type "object") = some true) (mb_NoProduct : PySem.W.mroIn K C_NoProduct (.type "BaseException") = some true)
    (v_NoRow : PySem.W.nsIn K mainGlobals "NoRow" = some (some (.ref C_NoRow))) (x_NoRow : PySem.W.excIn K C_NoRow bmVE "ValueError.__new__" = true) (ga_NoRow : PySem.W.findIn K (.ref C_NoRow) "__getattribute__" = some (some (.builtin "BaseException.__getattribute__"))) (gt_NoRow : PySem.W.findIn K (.ref C_NoRow) "__getattr__" = some none) (ca_NoRow : PySem.W.findIn K (.ref C_NoRow) "__class__" = some (some (.builtin "object.__class__"))) (cg_NoRow : PySem.W.specialIn K (.builtin "object.__class__") "__get__" = some (some (.builtin "getset_descriptor.__get__"))) (tk_NoRow : PySem.W.takesIn K (.builtin "object.__class__") = some true) (mo_NoRow : PySem.W.mroIn K C_NoRow (.type "object") = some true) (mb_NoRow : PySem.W.mroIn K C_NoRow (.type "BaseException") = some true)
    (v_NoLook : PySem.W.nsIn K mainGlobals "NoLook" = some (some (.ref C_NoLook))) (x_NoLook : PySem.W.excIn K C_NoLook bmVE "ValueError.__new__" = true) (ga_NoLook : PySem.W.findIn K (.ref C_NoLook) "__getattribute__" = some (some (.builtin "BaseException.__getattribute__"))) (gt_NoLook : PySem.W.findIn K (.ref C_NoLook) "__getattr__" = some none) (ca_NoLook : PySem.W.findIn K (.ref C_NoLook) "__class__" = some (some (.builtin "object.__class__"))) (cg_NoLook : PySem.W.specialIn K (.builtin "object.__class__") "__get__" = some (some (.builtin "getset_descriptor.__get__"))) (tk_NoLook : PySem.W.takesIn K (.builtin "object.__class__") = some true) (mo_NoLook : PySem.W.mroIn K C_NoLook (.type "object") = some true) (mb_NoLook : PySem.W.mroIn K C_NoLook (.type "BaseException") = some true)
    (pg_Span : PySem.W.plainGet K C_Span Str.empty = true)
    (hd_Span : PySem.W.hasDictIn K C_Span = true)
    (po_Span : PySem.W.plainOver K C_Span = true)
    (sa_Span : PySem.W.findIn K (.ref C_Span) "__setattr__" = some (some (.builtin "object.__setattr__")))
    (mk_Span : PySem.W.makesIn K C_Span = true)
    (kc_Span : PySem.W.keepIn K (.ref C_Span) = true)
    (na_Span_sums : PySem.W.findIn K (.ref C_Span) "sums" = some none)
    (na_Span_taken : PySem.W.findIn K (.ref C_Span) "taken" = some none)
    (pg_Draws : PySem.W.plainGet K C_Draws Str.empty = true)
    (hd_Draws : PySem.W.hasDictIn K C_Draws = true)
    (po_Draws : PySem.W.plainOver K C_Draws = true)
    (sa_Draws : PySem.W.findIn K (.ref C_Draws) "__setattr__" = some (some (.builtin "object.__setattr__")))
    (mk_Draws : PySem.W.makesIn K C_Draws = true)
    (kc_Draws : PySem.W.keepIn K (.ref C_Draws) = true)
    (na_Draws_bits : PySem.W.findIn K (.ref C_Draws) "bits" = some none)
    (na_Draws_told : PySem.W.findIn K (.ref C_Draws) "told" = some none)
    (pg_Signs : PySem.W.plainGet K C_Signs Str.empty = true)
    (hd_Signs : PySem.W.hasDictIn K C_Signs = true)
    (po_Signs : PySem.W.plainOver K C_Signs = true)
    (sa_Signs : PySem.W.findIn K (.ref C_Signs) "__setattr__" = some (some (.builtin "object.__setattr__")))
    (mk_Signs : PySem.W.makesIn K C_Signs = true)
    (kc_Signs : PySem.W.keepIn K (.ref C_Signs) = true)
    (na_Signs_kept : PySem.W.findIn K (.ref C_Signs) "kept" = some none)
    (na_Signs_n : PySem.W.findIn K (.ref C_Signs) "n" = some none)
    (cg_Machine___init__ : PySem.W.specialIn K (.ref C_Machine) "__getattribute__" = some (some (.builtin "type.__getattribute__")))
    (cr_Machine___init__ : PySem.W.readsIn K C_Machine (.type "type") = true)
    (ce_Machine___init__ : PySem.W.findCls K (.ref C_Machine) (.type "type") "__init__" = some (.val (.ref f5)))
    (z_len : PySem.W.nsIn K mainGlobals "len" = some none)
    (z_isinstance : PySem.W.nsIn K mainGlobals "isinstance" = some none)
    (z_int : PySem.W.nsIn K mainGlobals "int" = some none)
    (z_bool : PySem.W.nsIn K mainGlobals "bool" = some none)
    (z_range : PySem.W.nsIn K mainGlobals "range" = some none)
    (z_max : PySem.W.nsIn K mainGlobals "max" = some none)
    (z_all : PySem.W.nsIn K mainGlobals "all" = some none)
    (z_tuple : PySem.W.nsIn K mainGlobals "tuple" = some none)
    (z_list : PySem.W.nsIn K mainGlobals "list" = some none) :
    ∃ fd : FuncData, (∀ (s : Shared) (v : Value), BindsTo s fd ⟨[v], []⟩ [("_law_script", v)]) ∧ ∀ base : Heap, K.In base → base.Ns mainGlobals mg → BltM mg base → FnOk l.prog w K mg base CX0 9 fa fd ["_law_script"] (sp_law K TT_drawer_of) := by
  have e := hfa.symm.trans (PySem.W.mg_of KX G a34)
  cases e
  have F0 := fun_mk (st := s__law_cell_at) l0 q0 k0
  have b0 := F0.binds (ps := ["_law_script", "_law_k"]) fun _ _ _ _ _ _ us hl => match us, hl with | [_, _], _ => rfl
  have F1 := fun_mk (st := s__law_mixed) l1 q1 k1
  have b1 := F1.binds (ps := ["_law_draw", "_law_k"]) fun _ _ _ _ _ _ us hl => match us, hl with | [_, _], _ => rfl
  have F2 := fun_mk (st := s_Draws___init__) l2 q2 k2
  have b2 := F2.binds (ps := ["self", "numbers"]) fun _ _ _ _ _ _ us hl => match us, hl with | [_, _], _ => rfl
  have F3 := func_mk (st := s_drawer_of) l3 q3 k3
  have b3 := F3.binds (ps := ["numbers"]) fun _ _ _ _ _ _ us hl => match us, hl with | [_], _ => rfl
  have F4 := fun_mk (st := s_is_whole_number) l4 q4 k4
  have b4 := F4.binds (ps := ["thing"]) fun _ _ _ _ _ _ us hl => match us, hl with | [_], _ => rfl
  have F5 := fun_mk (st := s_Machine___init__) l5 q5 k5
  have b5 := F5.binds (ps := ["self", "n", "most"]) fun _ _ _ _ _ _ us hl => match us, hl with | [_, _, _], _ => rfl
  have F6 := fun_mk (st := s_Signs___init__) l6 q6 k6
  have b6 := F6.binds (ps := ["self", "n"]) fun _ _ _ _ _ _ us hl => match us, hl with | [_, _], _ => rfl
  have F7 := fun_mk (st := s_Span_left_of) l7 q7 k7
  have b7 := F7.binds (ps := ["self", "number", "which"]) fun _ _ _ _ _ _ us hl => match us, hl with | [_, _, _], _ => rfl
  have F8 := fun_mk (st := s_Span_parts_of) l8 q8 k8
  have b8 := F8.binds (ps := ["self", "number"]) fun _ _ _ _ _ _ us hl => match us, hl with | [_, _], _ => rfl
  have F9 := fun_mk (st := s_lowest_bit) l9 q9 k9
  have b9 := F9.binds (ps := ["number"]) fun _ _ _ _ _ _ us hl => match us, hl with | [_], _ => rfl
  have F10 := fun_mk (st := s_Span_take) l10 q10 k10
  have b10 := F10.binds (ps := ["self", "number"]) fun _ _ _ _ _ _ us hl => match us, hl with | [_, _], _ => rfl
  have F11 := fun_mk (st := s_Span___init__) l11 q11 k11
  have b11 := F11.binds (ps := ["self", "numbers"]) fun _ _ _ _ _ _ us hl => match us, hl with | [_, _], _ => rfl
  have F12 := fun_mk (st := s_widest) l12 q12 k12
  have b12 := F12.binds (ps := ["rows"]) fun _ _ _ _ _ _ us hl => match us, hl with | [_], _ => rfl
  have F13 := fun_mk (st := s_bit_at) l13 q13 k13
  have b13 := F13.binds (ps := ["number", "k"]) fun _ _ _ _ _ _ us hl => match us, hl with | [_, _], _ => rfl
  have F14 := fun_mk (st := s_places) l14 q14 k14
  have b14 := F14.binds (ps := ["number"]) fun _ _ _ _ _ _ us hl => match us, hl with | [_], _ => rfl
  have F15 := fun_mk (st := s_ones) l15 q15 k15
  have b15 := F15.binds (ps := ["number"]) fun _ _ _ _ _ _ us hl => match us, hl with | [_], _ => rfl
  have F16 := fun_mk (st := s_goes_beside) l16 q16 k16
  have b16 := F16.binds (ps := ["one", "other"]) fun _ _ _ _ _ _ us hl => match us, hl with | [_, _], _ => rfl
  have F17 := fun_mk (st := s_letters_y) l17 q17 k17
  have b17 := F17.binds (ps := ["row"]) fun _ _ _ _ _ _ us hl => match us, hl with | [_], _ => rfl
  have F18 := fun_mk (st := s_times) l18 q18 k18
  have b18 := F18.binds (ps := ["one", "other"]) fun _ _ _ _ _ _ us hl => match us, hl with | [_, _], _ => rfl
  have F19 := fun_mk (st := s_product_of) l19 q19 k19
  have b19 := F19.binds (ps := ["rows"]) fun _ _ _ _ _ _ us hl => match us, hl with | [_], _ => rfl
  have F20 := fun_mk (st := s_signs_number) l20 q20 k20
  have b20 := F20.binds (ps := ["row", "n"]) fun _ _ _ _ _ _ us hl => match us, hl with | [_, _], _ => rfl
  have F21 := fun_mk (st := s_made_of) l21 q21 k21
  have b21 := F21.binds (ps := ["rows", "row"]) fun _ _ _ _ _ _ us hl => match us, hl with | [_, _], _ => rfl
  have F22 := fun_mk (st := s_Signs_sure_value) l22 q22 k22
  have b22 := F22.binds (ps := ["self", "row"]) fun _ _ _ _ _ _ us hl => match us, hl with | [_, _], _ => rfl
  have F23 := fun_mk (st := s_Signs_settle) l23 q23 k23
  have b23 := F23.binds (ps := ["self", "row", "value"]) fun _ _ _ _ _ _ us hl => match us, hl with | [_, _, _], _ => rfl
  have F24 := fun_mk (st := s_fits) l24 q24 k24
  have b24 := F24.binds (ps := ["number", "n"]) fun _ _ _ _ _ _ us hl => match us, hl with | [_, _], _ => rfl
  have F25 := fun_mk (st := s_checked_row) l25 q25 k25
  have b25 := F25.binds (ps := ["thing", "n"]) fun _ _ _ _ _ _ us hl => match us, hl with | [_, _], _ => rfl
  have F26 := fun_mk (st := s_weight_of) l26 q26 k26
  have b26 := F26.binds (ps := ["row"]) fun _ _ _ _ _ _ us hl => match us, hl with | [_], _ => rfl
  have F27 := fun_mk (st := s_check_look) l27 q27 k27
  have b27 := F27.binds (ps := ["row", "n"]) fun _ _ _ _ _ _ us hl => match us, hl with | [_, _], _ => rfl
  have F28 := fun_mk (st := s_Draws_draw) l28 q28 k28
  have b28 := F28.binds (ps := ["self"]) fun _ _ _ _ _ _ us hl => match us, hl with | [_], _ => rfl
  have F29 := fun_mk (st := s_value_drawn) l29 q29 k29
  have b29 := F29.binds (ps := ["draw"]) fun _ _ _ _ _ _ us hl => match us, hl with | [_], _ => rfl
  have F30 := fund_mk (st := s_Machine_look) l30 q30 k30 dt30
  have b30 := F30.binds (ps := ["self", "row", "draw"]) (ds := []) fun _ _ _ _ _ _ _ us hl => match us, (show us.length = 3 by simpa using hl) with | [_, _, _], _ => ⟨_, rfl, rfl⟩
  have bN30 := F30.binds (ps := ["self", "row", "draw"]) (ds := [.none]) fun _ _ _ _ _ _ _ us hl => match us, (show us.length = 2 by simpa using hl) with | [_, _], _ => ⟨_, rfl, rfl⟩
  have F31 := fun_mk (st := s__law_bit) l31 q31 k31
  have b31 := F31.binds (ps := ["_law_numbers", "_law_at"]) fun _ _ _ _ _ _ us hl => match us, hl with | [_, _], _ => rfl
  have F32 := fun_mk (st := s__law_right) l32 q32 k32
  have b32 := F32.binds (ps := ["_law_found", "_law_due"]) fun _ _ _ _ _ _ us hl => match us, hl with | [_, _], _ => rfl
  have F33 := fun_mk (st := s__law_used_up) l33 q33 k33
  have b33 := F33.binds (ps := ["_law_numbers"]) fun _ _ _ _ _ _ us hl => match us, hl with | [_], _ => rfl
  have F34 := fun_mk (st := s_law) l34 q34 k34
  have g_MOST_WIRES : GC mg "MOST_WIRES" (.int 40) := ⟨_, PySem.W.mg_of KX G v_MOST_WIRES, ⟨_, rfl⟩⟩
  have g_XS : GC mg "XS" (.int 1) := ⟨_, PySem.W.mg_of KX G v_XS, ⟨_, rfl⟩⟩
  have g_ZS : GC mg "ZS" (.int 2) := ⟨_, PySem.W.mg_of KX G v_ZS, ⟨_, rfl⟩⟩
  have g_MINUS : GC mg "MINUS" (.int 0) := ⟨_, PySem.W.mg_of KX G v_MINUS, ⟨_, rfl⟩⟩
  have c_NoWires : ExcC K mg "NoWires" C_NoWires := ⟨PySem.W.mg_of KX G v_NoWires, ⟨x_NoWires, ga_NoWires, gt_NoWires, ca_NoWires, cg_NoWires, tk_NoWires, mo_NoWires, mb_NoWires⟩⟩
  have c_NoProduct : ExcC K mg "NoProduct" C_NoProduct := ⟨PySem.W.mg_of KX G v_NoProduct, ⟨x_NoProduct, ga_NoProduct, gt_NoProduct, ca_NoProduct, cg_NoProduct, tk_NoProduct, mo_NoProduct, mb_NoProduct⟩⟩
  have c_NoRow : ExcC K mg "NoRow" C_NoRow := ⟨PySem.W.mg_of KX G v_NoRow, ⟨x_NoRow, ga_NoRow, gt_NoRow, ca_NoRow, cg_NoRow, tk_NoRow, mo_NoRow, mb_NoRow⟩⟩
  have c_NoLook : ExcC K mg "NoLook" C_NoLook := ⟨PySem.W.mg_of KX G v_NoLook, ⟨x_NoLook, ga_NoLook, gt_NoLook, ca_NoLook, cg_NoLook, tk_NoLook, mo_NoLook, mb_NoLook⟩⟩
  have b_len : mg "len" = none := PySem.W.mg_none_of KX G z_len
  have b_isinstance : mg "isinstance" = none := PySem.W.mg_none_of KX G z_isinstance
  have b_int : mg "int" = none := PySem.W.mg_none_of KX G z_int
  have b_bool : mg "bool" = none := PySem.W.mg_none_of KX G z_bool
  have b_range : mg "range" = none := PySem.W.mg_none_of KX G z_range
  have b_max : mg "max" = none := PySem.W.mg_none_of KX G z_max
  have b_all : mg "all" = none := PySem.W.mg_none_of KX G z_all
  have b_tuple : mg "tuple" = none := PySem.W.mg_none_of KX G z_tuple
  have b_list : mg "list" = none := PySem.W.mg_none_of KX G z_list
  have T_S : Txt_S K (CDof_S C_Span) := ⟨(fun d => match d with | .span => ⟨pg_Span, hd_Span, po_Span, sa_Span⟩), (fun d => match d with | .span => na_Span_sums), (fun d => match d with | .span => na_Span_taken)⟩
  have T_R : Txt_R K (CDof_R C_Draws) := ⟨(fun d => match d with | .draws => ⟨pg_Draws, hd_Draws, po_Draws, sa_Draws⟩), (fun d => match d with | .draws => na_Draws_bits), (fun d => match d with | .draws => na_Draws_told)⟩
  have T_M : Txt_M K (CDof_M C_Signs) := ⟨(fun d => match d with | .sg => ⟨pg_Signs, hd_Signs, po_Signs, sa_Signs⟩), (fun d => match d with | .sg => na_Signs_kept), (fun d => match d with | .sg => na_Signs_n)⟩
  refine ⟨PySem.W.fnOf "law" "law" (defArgs s_law) (defBody s_law) (defScope s_law) .none kV34 dc34 pm34 an34 cd34 ct34, fun s v => .of_eq rfl, fun base KB _ bm => ?_⟩
  have o__law_cell_at := ok__law_cell_at (P := l.prog) (w := w) (mg := mg) (base := base) F0 b_len
  have o__law_mixed := ok__law_mixed (P := l.prog) (w := w) (mg := mg) (base := base) F1 
  have o_Draws___init__ := ok_Draws___init__ (P := l.prog) (w := w) (mg := mg) (base := base) (CD_R := (CDof_R C_Draws)) F2 T_R
  have k_Draws : KCal l.prog w K mg base CX0 1 "Draws" ((CDof_R C_Draws) .draws) ["self", "numbers"] (sp_Draws___init__ K (CDof_R C_Draws)) := ⟨f2, _, ⟨mk_Draws, mt_Draws___init__, if_2, kc_Draws⟩, o_Draws___init__, b2, PySem.W.mg_of KX G v_Draws⟩
  have tb_drawer_of := PySem.W.codeHd_of_K (c := cc_drawer_of) (P := TT_drawer_of) KB hc_drawer_of
  have o_drawer_of := ok_drawer_of (P := l.prog) (w := w) (mg := mg) (base := base) (CD_R := (CDof_R C_Draws)) (TT_drawer_of := TT_drawer_of) F3 k_Draws T_R tb_drawer_of bm
  have o_is_whole_number := ok_is_whole_number (P := l.prog) (w := w) (mg := mg) (base := base) F4 b_isinstance b_int b_bool
  have c_is_whole_number : Cal l.prog w K mg base CX0 1 "is_whole_number" ["thing"] (sp_is_whole_number K) := ⟨f4, _, o_is_whole_number, b4, k4, PySem.W.mg_of KX G a4⟩
  have o_Machine___init__ := ok_Machine___init__ (P := l.prog) (w := w) (mg := mg) (base := base) (CD_M := (CDof_M C_Signs)) F5 T_M c_NoWires c_is_whole_number
  have cm_Machine___init__ : CCal l.prog w K mg base (CXE l.prog w) 2 "Machine" "__init__" ["self", "n", "most"] (sp_Machine___init__ K (CDof_M C_Signs)) := ⟨C_Machine, f5, _, PySem.W.mg_of KX G v_Machine, ⟨cg_Machine___init__, cr_Machine___init__, ce_Machine___init__, k5⟩, o_Machine___init__, b5⟩
  have o_Signs___init__ := ok_Signs___init__ (P := l.prog) (w := w) (mg := mg) (base := base) (CD_M := (CDof_M C_Signs)) F6 cm_Machine___init__ T_M g_MOST_WIRES b_range
  have o_Span_left_of := ok_Span_left_of (P := l.prog) (w := w) (mg := mg) (base := base) (CD_S := (CDof_S C_Span)) F7 T_S
  have m_S_left_of : ∀ d : SK, MCal l.prog w K mg base CX0 1 ((CDof_S C_Span) d) "left_of" ["self", "number", "which"] (sp_S_left_of K (CDof_S C_Span) d) := fun d => match d with | .span => ⟨T_S.cl .span, f7, _, ⟨mt_Span_left_of, if_7, k7⟩, (o_Span_left_of).mono (by decide), b7⟩
  have o_Span_parts_of := ok_Span_parts_of (P := l.prog) (w := w) (mg := mg) (base := base) (CD_S := (CDof_S C_Span)) F8 m_S_left_of
  have o_lowest_bit := ok_lowest_bit (P := l.prog) (w := w) (mg := mg) (base := base) F9 
  have c_lowest_bit : Cal l.prog w K mg base CX0 1 "lowest_bit" ["number"] (sp_lowest_bit K) := ⟨f9, _, o_lowest_bit, b9, k9, PySem.W.mg_of KX G a9⟩
  have o_Span_take := ok_Span_take (P := l.prog) (w := w) (mg := mg) (base := base) (CD_S := (CDof_S C_Span)) F10 m_S_left_of T_S c_lowest_bit
  have m_S_take : ∀ d : SK, MCal l.prog w K mg base CX0 2 ((CDof_S C_Span) d) "take" ["self", "number"] (sp_S_take K (CDof_S C_Span) d) := fun d => match d with | .span => ⟨T_S.cl .span, f10, _, ⟨mt_Span_take, if_10, k10⟩, (o_Span_take).mono (by decide), b10⟩
  have o_Span___init__ := ok_Span___init__ (P := l.prog) (w := w) (mg := mg) (base := base) (CD_S := (CDof_S C_Span)) F11 T_S m_S_take
  have o_widest := ok_widest (P := l.prog) (w := w) (mg := mg) (base := base) F12 b_max g_XS g_ZS
  have o_bit_at := ok_bit_at (P := l.prog) (w := w) (mg := mg) (base := base) F13 
  have c_bit_at : Cal l.prog w K mg base CX0 1 "bit_at" ["number", "k"] (sp_bit_at K) := ⟨f13, _, o_bit_at, b13, k13, PySem.W.mg_of KX G a13⟩
  have o_places := ok_places (P := l.prog) (w := w) (mg := mg) (base := base) F14 b_range c_bit_at
  have o_ones := ok_ones (P := l.prog) (w := w) (mg := mg) (base := base) F15 
  have c_ones : Cal l.prog w K mg base CX0 1 "ones" ["number"] (sp_ones K) := ⟨f15, _, o_ones, b15, k15, PySem.W.mg_of KX G a15⟩
  have o_goes_beside := ok_goes_beside (P := l.prog) (w := w) (mg := mg) (base := base) F16 g_XS g_ZS c_ones
  have o_letters_y := ok_letters_y (P := l.prog) (w := w) (mg := mg) (base := base) F17 c_ones g_XS g_ZS
  have c_goes_beside : Cal l.prog w K mg base CX0 2 "goes_beside" ["one", "other"] (sp_goes_beside K) := ⟨f16, _, o_goes_beside, b16, k16, PySem.W.mg_of KX G a16⟩
  have c_letters_y : Cal l.prog w K mg base CX0 2 "letters_y" ["row"] (sp_letters_y K) := ⟨f17, _, o_letters_y, b17, k17, PySem.W.mg_of KX G a17⟩
  have o_times := ok_times (P := l.prog) (w := w) (mg := mg) (base := base) F18 c_goes_beside c_NoProduct g_XS g_ZS c_ones g_MINUS c_letters_y
  have c_times : Cal l.prog w K mg base (CXE l.prog w) 3 "times" ["one", "other"] (sp_times K C_NoProduct) := ⟨f18, _, o_times, b18, k18, PySem.W.mg_of KX G a18⟩
  have o_product_of := ok_product_of (P := l.prog) (w := w) (mg := mg) (base := base) F19 c_times
  have o_signs_number := ok_signs_number (P := l.prog) (w := w) (mg := mg) (base := base) F20 g_XS g_ZS
  have m_S_parts_of : ∀ d : SK, MCal l.prog w K mg base CX0 2 ((CDof_S C_Span) d) "parts_of" ["self", "number"] (sp_S_parts_of K (CDof_S C_Span) d) := fun d => match d with | .span => ⟨T_S.cl .span, f8, _, ⟨mt_Span_parts_of, if_8, k8⟩, (o_Span_parts_of).mono (by decide), b8⟩
  have k_Span : KCal l.prog w K mg base CX0 3 "Span" ((CDof_S C_Span) .span) ["self", "numbers"] (sp_Span___init__ K (CDof_S C_Span)) := ⟨f11, _, ⟨mk_Span, mt_Span___init__, if_11, kc_Span⟩, o_Span___init__, b11, PySem.W.mg_of KX G v_Span⟩
  have c_widest : Cal l.prog w K mg base CX0 1 "widest" ["rows"] (sp_widest K) := ⟨f12, _, o_widest, b12, k12, PySem.W.mg_of KX G a12⟩
  have c_places : Cal l.prog w K mg base CX0 2 "places" ["number"] (sp_places K) := ⟨f14, _, o_places, b14, k14, PySem.W.mg_of KX G a14⟩
  have c_product_of : Cal l.prog w K mg base (CXE l.prog w) 4 "product_of" ["rows"] (sp_product_of K) := ⟨f19, _, o_product_of, b19, k19, PySem.W.mg_of KX G a19⟩
  have c_signs_number : Cal l.prog w K mg base CX0 1 "signs_number" ["row", "n"] (sp_signs_number K) := ⟨f20, _, o_signs_number, b20, k20, PySem.W.mg_of KX G a20⟩
  have o_made_of := ok_made_of (P := l.prog) (w := w) (mg := mg) (base := base) F21 m_S_parts_of k_Span T_S c_widest c_places c_product_of c_signs_number g_MINUS
  have c_made_of : Cal l.prog w K mg base (CXE l.prog w) 5 "made_of" ["rows", "row"] (sp_made_of K) := ⟨f21, _, o_made_of, b21, k21, PySem.W.mg_of KX G a21⟩
  have o_Signs_sure_value := ok_Signs_sure_value (P := l.prog) (w := w) (mg := mg) (base := base) (CD_M := (CDof_M C_Signs)) F22 T_M c_made_of
  have o_Signs_settle := ok_Signs_settle (P := l.prog) (w := w) (mg := mg) (base := base) (CD_M := (CDof_M C_Signs)) F23 T_M c_times c_goes_beside g_XS g_ZS
  have o_fits := ok_fits (P := l.prog) (w := w) (mg := mg) (base := base) F24 
  have c_fits : Cal l.prog w K mg base CX0 1 "fits" ["number", "n"] (sp_fits K) := ⟨f24, _, o_fits, b24, k24, PySem.W.mg_of KX G a24⟩
  have o_checked_row := ok_checked_row (P := l.prog) (w := w) (mg := mg) (base := base) F25 c_NoRow b_all b_isinstance b_tuple b_len g_MINUS c_fits c_is_whole_number g_XS g_ZS
  have o_weight_of := ok_weight_of (P := l.prog) (w := w) (mg := mg) (base := base) F26 c_ones g_XS g_ZS
  have c_checked_row : Cal l.prog w K mg base (CXE l.prog w) 2 "checked_row" ["thing", "n"] (sp_checked_row K) := ⟨f25, _, o_checked_row, b25, k25, PySem.W.mg_of KX G a25⟩
  have c_weight_of : Cal l.prog w K mg base CX0 2 "weight_of" ["row"] (sp_weight_of K) := ⟨f26, _, o_weight_of, b26, k26, PySem.W.mg_of KX G a26⟩
  have o_check_look := ok_check_look (P := l.prog) (w := w) (mg := mg) (base := base) F27 c_checked_row c_NoLook g_MINUS c_weight_of
  have o_Draws_draw := ok_Draws_draw (P := l.prog) (w := w) (mg := mg) (base := base) (CD_R := (CDof_R C_Draws)) F28 T_R b_len
  have m_R_draw : ∀ d : RK, MCal l.prog w K mg base CX0 1 ((CDof_R C_Draws) d) "draw" ["self"] (sp_R_draw K (CDof_R C_Draws) d) := fun d => match d with | .draws => ⟨T_R.cl .draws, f28, _, ⟨mt_Draws_draw, if_28, k28⟩, (o_Draws_draw).mono (by decide), b28⟩
  have h_lam : LCal l.prog w K mg base 2 (LD (CDof_R C_Draws)) := lam_ok m_R_draw T_R
  have o_value_drawn := ok_value_drawn (P := l.prog) (w := w) (mg := mg) (base := base) (CD_R := (CDof_R C_Draws)) F29 h_lam
  have m_M_sure_value : ∀ d : MK, MCal l.prog w K mg base (CXE l.prog w) 6 ((CDof_M C_Signs) d) "sure_value" ["self", "row"] (sp_M_sure_value K (CDof_M C_Signs) d) := fun d => match d with | .sg => ⟨T_M.cl .sg, f22, _, ⟨mt_Signs_sure_value, if_22, k22⟩, (o_Signs_sure_value).mono (by decide), b22⟩
  have m_M_settle : ∀ d : MK, MCal l.prog w K mg base (CXE l.prog w) 4 ((CDof_M C_Signs) d) "settle" ["self", "row", "value"] (sp_M_settle K (CDof_M C_Signs) d) := fun d => match d with | .sg => ⟨T_M.cl .sg, f23, _, ⟨mt_Signs_settle, if_23, k23⟩, (o_Signs_settle).mono (by decide), b23⟩
  have c_check_look : Cal l.prog w K mg base (CXE l.prog w) 3 "check_look" ["row", "n"] (sp_check_look K) := ⟨f27, _, o_check_look, b27, k27, PySem.W.mg_of KX G a27⟩
  have c_value_drawn : Cal l.prog w K mg base CX0 3 "value_drawn" ["draw"] (sp_value_drawn K (CDof_R C_Draws)) := ⟨f29, _, o_value_drawn, b29, k29, PySem.W.mg_of KX G a29⟩
  have o_Machine_look := ok_Machine_look (P := l.prog) (w := w) (mg := mg) (base := base) (CD_R := (CDof_R C_Draws)) (CD_M := (CDof_M C_Signs)) F30 m_M_sure_value m_M_settle T_M c_check_look c_value_drawn
  have o__law_bit := ok__law_bit (P := l.prog) (w := w) (mg := mg) (base := base) F31 b_len
  have o__law_right := ok__law_right (P := l.prog) (w := w) (mg := mg) (base := base) F32 b_isinstance b_int b_bool
  have k_Signs : KCal l.prog w K mg base (CXE l.prog w) 3 "Signs" ((CDof_M C_Signs) .sg) ["self", "n"] (sp_Signs___init__ K (CDof_M C_Signs)) := ⟨f6, _, ⟨mk_Signs, mt_Signs___init__, if_6, kc_Signs⟩, o_Signs___init__, b6, PySem.W.mg_of KX G v_Signs⟩
  have m_M_look : ∀ d : MK, MCal l.prog w K mg base (CXE l.prog w) 7 ((CDof_M C_Signs) d) "look" ["self", "row", "draw"] (sp_M_look K (CDof_M C_Signs) (CDof_R C_Draws) d) := fun d => match d with | .sg => ⟨T_M.cl .sg, f30, _, ⟨mt_Signs_look, if_30, k30⟩, (o_Machine_look).mono (by decide), b30⟩
  have mN_M_look : ∀ d : MK, MCalN l.prog w K mg base (CXE l.prog w) 7 ((CDof_M C_Signs) d) "look" ["self", "row", "draw"] (sp_M_look K (CDof_M C_Signs) (CDof_R C_Draws) d) := fun d => match d with | .sg => ⟨T_M.cl .sg, f30, _, ⟨mt_Signs_look, if_30, k30⟩, (o_Machine_look).mono (by decide), bN30⟩
  have c_drawer_of : Cal l.prog w K mg base CX0 3 "drawer_of" ["numbers"] (sp_drawer_of K (CDof_R C_Draws) TT_drawer_of) := ⟨f3, _, o_drawer_of, b3, k3, PySem.W.mg_of KX G a3⟩
  have c__law_bit : Cal l.prog w K mg base CX0 1 "_law_bit" ["_law_numbers", "_law_at"] (sp__law_bit K) := ⟨f31, _, o__law_bit, b31, k31, PySem.W.mg_of KX G a31⟩
  have c__law_right : Cal l.prog w K mg base CX0 1 "_law_right" ["_law_found", "_law_due"] (sp__law_right K) := ⟨f32, _, o__law_right, b32, k32, PySem.W.mg_of KX G a32⟩
  have o__law_used_up := ok__law_used_up (P := l.prog) (w := w) (mg := mg) (base := base) (TT_drawer_of := TT_drawer_of) F33 k_Signs T_M m_M_look mN_M_look c_drawer_of c__law_bit c__law_right h_lam
  have c__law_cell_at : Cal l.prog w K mg base CX0 1 "_law_cell_at" ["_law_script", "_law_k"] (sp__law_cell_at K) := ⟨f0, _, o__law_cell_at, b0, k0, PySem.W.mg_of KX G a0⟩
  have c__law_mixed : Cal l.prog w K mg base CX0 1 "_law_mixed" ["_law_draw", "_law_k"] (sp__law_mixed K) := ⟨f1, _, o__law_mixed, b1, k1, PySem.W.mg_of KX G a1⟩
  have c__law_used_up : Cal l.prog w K mg base CX0 8 "_law_used_up" ["_law_numbers"] (sp__law_used_up K TT_drawer_of) := ⟨f33, _, o__law_used_up, b33, k33, PySem.W.mg_of KX G a33⟩
  exact ok_law F34 c__law_cell_at c__law_mixed b_list c_drawer_of c__law_used_up c__law_right c__law_bit h_lam
theorem walk {l : PySem.W.OpenLaw} {q : Program} {loose : List Str} {XP : (Str → Option Value) → Heap → Prop} {YP : World → Heap → Prop} {d : DefRec} {K : Params → PySem.W.Frag} {cc_drawer_of TT_drawer_of : Addr} (hn : l.most = some 63) (hdf : d.params.defaults = [])
    (hY : ∀ (w : World) (h : Heap), YP w h → (K w.params).In h ∧ PySem.W.TabsAt [(cc_drawer_of, TT_drawer_of)] h) (hnt : ∀ w : World, PySem.W.noTabs (K w.params) = true) (hdi : [TT_drawer_of].Nodup)
    (F : ∀ (w : World) (mg : Str → Option Value) (fa : Addr) (h : Heap), (K w.params).In h → h.Ns mainGlobals mg → mg d.name = some (.ref fa) →
      ∃ fd : FuncData, (∀ (s : Shared) (u : Value), BindsTo s fd ⟨[u], []⟩ [("_law_script", u)]) ∧ ∀ base : Heap, (K w.params).In base → base.Ns mainGlobals mg → BltM mg base → FnOk l.prog w (K w.params) mg base CX0 9 fa fd ["_law_script"] (sp_law (K w.params) TT_drawer_of)) :
    PySem.W.WalkO q loose XP YP l.row.toRowW d [] (fun f vs => PySem.call f vs) :=
  L2.walk_ofT (n := 63) (k := 9) (x := "_law_script") (CX := fun _ => CX0) (sp := fun w => sp_law (K w.params) TT_drawer_of) (tabs := [(cc_drawer_of, TT_drawer_of)]) hn (by decide) hdf ⟨rfl, by decide, by decide⟩ hY hnt F (fun _ _ a ns hl hS hT => ⟨a, ns, rfl, hS, hl, ⟨TabAt.start (hT (cc_drawer_of, TT_drawer_of) (by simp)), hdi⟩, fun _ => rfl⟩) fun _ _ _ _ _ z => z
end Tw
open PySem PySem.W PyProof.Rows
set_option maxRecDepth 100000 in
set_option maxHeartbeats 0 in
theorem PySem.Challenge.cw_twinwires_k38_drawers_holds : PySem.Challenge.rw_twinwires_k38_drawers.Holds := by
  w_on; o_law
  refine Tw.holds_once Tw.run0 Tw.run1 (by kernel_rfl) (fun _ => by kernel_rfl) (by kernel_rfl) (by rfl) (by rfl) (by rfl) (by rfl) (by first | assumption | decide +kernel) (by decide +kernel) ⟨rfl, rfl, rfl, rfl, rfl, by decide +kernel⟩ ?hw ?hc
  (case hw => w_witness2)
  k_fill
  refine Tw.walk (l := PySem.Challenge.rw_twinwires_k38_drawers) (cc_drawer_of := 258) (TT_drawer_of := 254) rfl rfl (fun w h Y => ⟨PySem.W.km_in_of Y, (List.forall_mem_cons.mpr ⟨⟨PySem.W.codeHd_of_K (c := 258) (P := 254) (PySem.W.km_in_of Y) (by kernel_rfl), PySem.W.km_tabs_of Y 254 (by decide)⟩, (fun _ h => nomatch h)⟩)⟩) (fun w => by kernel_rfl) (by decide) ?F
  case F =>
    intro w mg fa h KX G hmg
    refine' Tw.all_mk (cc_drawer_of := 258) (TT_drawer_of := 254) KX G hmg ?v_Span ?v_Draws ?v_Signs ?v_Machine ?mt_Machine___init__ ?if_5 ?mt_Draws___init__ ?if_2 ?mt_Span_left_of ?if_7 ?mt_Span_take ?if_10 ?mt_Span_parts_of ?if_8 ?mt_Span___init__ ?if_11 ?mt_Draws_draw ?if_28 ?mt_Signs_sure_value ?if_22 ?mt_Signs_settle ?if_23 ?mt_Signs___init__ ?if_6 ?mt_Signs_look ?if_30 ?a0 ?l0 ?q0 ?k0 ?a1 ?l1 ?q1 ?k1 ?l2 ?q2 ?k2 ?a3 ?l3 ?q3 ?hc_drawer_of ?k3 ?a4 ?l4 ?q4 ?k4 ?l5 ?q5 ?k5 ?l6 ?q6 ?k6 ?l7 ?q7 ?k7 ?l8 ?q8 ?k8 ?a9 ?l9 ?q9 ?k9 ?l10 ?q10 ?k10 ?l11 ?q11 ?k11 ?a12 ?l12 ?q12 ?k12 ?a13 ?l13 ?q13 ?k13 ?a14 ?l14 ?q14 ?k14 ?a15 ?l15 ?q15 ?k15 ?a16 ?l16 ?q16 ?k16 ?a17 ?l17 ?q17 ?k17 ?a18 ?l18 ?q18 ?k18 ?a19 ?l19 ?q19 ?k19 ?a20 ?l20 ?q20 ?k20 ?a21 ?l21 ?q21 ?k21 ?l22 ?q22 ?k22 ?l23 ?q23 ?k23 ?a24 ?l24 ?q24 ?k24 ?a25 ?l25 ?q25 ?k25 ?a26 ?l26 ?q26 ?k26 ?a27 ?l27 ?q27 ?k27 ?l28 ?q28 ?k28 ?a29 ?l29 ?q29 ?k29 ?l30 ?dt30 ?q30 ?k30 ?a31 ?l31 ?q31 ?k31 ?a32 ?l32 ?q32 ?k32 ?a33 ?l33 ?q33 ?k33 ?a34 ?l34 ?q34 ?k34 ?v_MOST_WIRES ?v_XS ?v_ZS ?v_MINUS ?v_NoWires ?x_NoWires ?ga_NoWires ?gt_NoWires ?ca_NoWires ?cg_NoWires ?tk_NoWires ?mo_NoWires ?mb_NoWires ?v_NoProduct ?x_NoProduct ?ga_NoProduct ?gt_NoProduct ?ca_NoProduct ?cg_NoProduct ?tk_NoProduct ?mo_NoProduct ?mb_NoProduct ?v_NoRow ?x_NoRow ?ga_NoRow ?gt_NoRow ?ca_NoRow ?cg_NoRow ?tk_NoRow ?mo_NoRow ?mb_NoRow ?v_NoLook ?x_NoLook ?ga_NoLook ?gt_NoLook ?ca_NoLook ?cg_NoLook ?tk_NoLook ?mo_NoLook ?mb_NoLook ?pg_Span ?hd_Span ?po_Span ?sa_Span ?mk_Span ?kc_Span ?na_Span_sums ?na_Span_taken ?pg_Draws ?hd_Draws ?po_Draws ?sa_Draws ?mk_Draws ?kc_Draws ?na_Draws_bits ?na_Draws_told ?pg_Signs ?hd_Signs ?po_Signs ?sa_Signs ?mk_Signs ?kc_Signs ?na_Signs_kept ?na_Signs_n ?cg_Machine___init__ ?cr_Machine___init__ ?ce_Machine___init__ ?z_len ?z_isinstance ?z_int ?z_bool ?z_range ?z_max ?z_all ?z_tuple ?z_list
    (case v_Span => k_is)
    (case v_Draws => k_is)
    (case v_Signs => k_is)
    (case v_Machine => k_is)
    (case mt_Machine___init__ => first | k_is | k_exc | kernel_rfl)
    (case if_5 => first | k_is | k_exc | kernel_rfl)
    (case mt_Draws___init__ => first | k_is | k_exc | kernel_rfl)
    (case if_2 => first | k_is | k_exc | kernel_rfl)
    (case mt_Span_left_of => first | k_is | k_exc | kernel_rfl)
    (case if_7 => first | k_is | k_exc | kernel_rfl)
    (case mt_Span_take => first | k_is | k_exc | kernel_rfl)
    (case if_10 => first | k_is | k_exc | kernel_rfl)
    (case mt_Span_parts_of => first | k_is | k_exc | kernel_rfl)
    (case if_8 => first | k_is | k_exc | kernel_rfl)
    (case mt_Span___init__ => first | k_is | k_exc | kernel_rfl)
    (case if_11 => first | k_is | k_exc | kernel_rfl)
    (case mt_Draws_draw => first | k_is | k_exc | kernel_rfl)
    (case if_28 => first | k_is | k_exc | kernel_rfl)
    (case mt_Signs_sure_value => first | k_is | k_exc | kernel_rfl)
    (case if_22 => first | k_is | k_exc | kernel_rfl)
    (case mt_Signs_settle => first | k_is | k_exc | kernel_rfl)
    (case if_23 => first | k_is | k_exc | kernel_rfl)
    (case mt_Signs___init__ => first | k_is | k_exc | kernel_rfl)
    (case if_6 => first | k_is | k_exc | kernel_rfl)
    (case mt_Signs_look => first | k_is | k_exc | kernel_rfl)
    (case if_30 => first | k_is | k_exc | kernel_rfl)
    (case a0 => k_is)
    (case l0 => k_is)
    (case q0 => k_is)
    (case k0 => k_is)
    (case a1 => k_is)
    (case l1 => k_is)
    (case q1 => k_is)
    (case k1 => k_is)
    (case l2 => k_is)
    (case q2 => k_is)
    (case k2 => k_is)
    (case a3 => k_is)
    (case l3 => k_is)
    (case q3 => k_is)
    (case hc_drawer_of => first | k_is | k_exc | kernel_rfl)
    (case k3 => k_is)
    (case a4 => k_is)
    (case l4 => k_is)
    (case q4 => k_is)
    (case k4 => k_is)
    (case l5 => k_is)
    (case q5 => k_is)
    (case k5 => k_is)
    (case l6 => k_is)
    (case q6 => k_is)
    (case k6 => k_is)
    (case l7 => k_is)
    (case q7 => k_is)
    (case k7 => k_is)
    (case l8 => k_is)
    (case q8 => k_is)
    (case k8 => k_is)
    (case a9 => k_is)
    (case l9 => k_is)
    (case q9 => k_is)
    (case k9 => k_is)
    (case l10 => k_is)
    (case q10 => k_is)
    (case k10 => k_is)
    (case l11 => k_is)
    (case q11 => k_is)
    (case k11 => k_is)
    (case a12 => k_is)
    (case l12 => k_is)
    (case q12 => k_is)
    (case k12 => k_is)
    (case a13 => k_is)
    (case l13 => k_is)
    (case q13 => k_is)
    (case k13 => k_is)
    (case a14 => k_is)
    (case l14 => k_is)
    (case q14 => k_is)
    (case k14 => k_is)
    (case a15 => k_is)
    (case l15 => k_is)
    (case q15 => k_is)
    (case k15 => k_is)
    (case a16 => k_is)
    (case l16 => k_is)
    (case q16 => k_is)
    (case k16 => k_is)
    (case a17 => k_is)
    (case l17 => k_is)
    (case q17 => k_is)
    (case k17 => k_is)
    (case a18 => k_is)
    (case l18 => k_is)
    (case q18 => k_is)
    (case k18 => k_is)
    (case a19 => k_is)
    (case l19 => k_is)
    (case q19 => k_is)
    (case k19 => k_is)
    (case a20 => k_is)
    (case l20 => k_is)
    (case q20 => k_is)
    (case k20 => k_is)
    (case a21 => k_is)
    (case l21 => k_is)
    (case q21 => k_is)
    (case k21 => k_is)
    (case l22 => k_is)
    (case q22 => k_is)
    (case k22 => k_is)
    (case l23 => k_is)
    (case q23 => k_is)
    (case k23 => k_is)
    (case a24 => k_is)
    (case l24 => k_is)
    (case q24 => k_is)
    (case k24 => k_is)
    (case a25 => k_is)
    (case l25 => k_is)
    (case q25 => k_is)
    (case k25 => k_is)
    (case a26 => k_is)
    (case l26 => k_is)
    (case q26 => k_is)
    (case k26 => k_is)
    (case a27 => k_is)
    (case l27 => k_is)
    (case q27 => k_is)
    (case k27 => k_is)
    (case l28 => k_is)
    (case q28 => k_is)
    (case k28 => k_is)
    (case a29 => k_is)
    (case l29 => k_is)
    (case q29 => k_is)
    (case k29 => k_is)
    (case l30 => k_is)
    (case dt30 => k_is)
    (case q30 => k_is)
    (case k30 => k_is)
    (case a31 => k_is)
    (case l31 => k_is)
    (case q31 => k_is)
    (case k31 => k_is)
    (case a32 => k_is)
    (case l32 => k_is)
    (case q32 => k_is)
    (case k32 => k_is)
    (case a33 => k_is)
    (case l33 => k_is)
    (case q33 => k_is)
    (case k33 => k_is)
    (case a34 => k_is)
    (case l34 => k_is)
    (case q34 => k_is)
    (case k34 => k_is)
    (case v_MOST_WIRES => k_is)
    (case v_XS => k_is)
    (case v_ZS => k_is)
    (case v_MINUS => k_is)
    (case v_NoWires => k_is)
    (case x_NoWires => first | k_is | k_exc | kernel_rfl)
    (case ga_NoWires => first | k_is | k_exc | kernel_rfl)
    (case gt_NoWires => first | k_is | k_exc | kernel_rfl)
    (case ca_NoWires => first | k_is | k_exc | kernel_rfl)
    (case cg_NoWires => first | k_is | k_exc | kernel_rfl)
    (case tk_NoWires => first | k_is | k_exc | kernel_rfl)
    (case mo_NoWires => first | k_is | k_exc | kernel_rfl)
    (case mb_NoWires => first | k_is | k_exc | kernel_rfl)
    (case v_NoProduct => k_is)
    (case x_NoProduct => first | k_is | k_exc | kernel_rfl)
    (case ga_NoProduct => first | k_is | k_exc | kernel_rfl)
    (case gt_NoProduct => first | k_is | k_exc | kernel_rfl)
    (case ca_NoProduct => first | k_is | k_exc | kernel_rfl)
    (case cg_NoProduct => first | k_is | k_exc | kernel_rfl)
    (case tk_NoProduct => first | k_is | k_exc | kernel_rfl)
    (case mo_NoProduct => first | k_is | k_exc | kernel_rfl)
    (case mb_NoProduct => first | k_is | k_exc | kernel_rfl)
    (case v_NoRow => k_is)
    (case x_NoRow => first | k_is | k_exc | kernel_rfl)
    (case ga_NoRow => first | k_is | k_exc | kernel_rfl)
    (case gt_NoRow => first | k_is | k_exc | kernel_rfl)
    (case ca_NoRow => first | k_is | k_exc | kernel_rfl)
    (case cg_NoRow => first | k_is | k_exc | kernel_rfl)
    (case tk_NoRow => first | k_is | k_exc | kernel_rfl)
    (case mo_NoRow => first | k_is | k_exc | kernel_rfl)
    (case mb_NoRow => first | k_is | k_exc | kernel_rfl)
    (case v_NoLook => k_is)
    (case x_NoLook => first | k_is | k_exc | kernel_rfl)
    (case ga_NoLook => first | k_is | k_exc | kernel_rfl)
    (case gt_NoLook => first | k_is | k_exc | kernel_rfl)
    (case ca_NoLook => first | k_is | k_exc | kernel_rfl)
    (case cg_NoLook => first | k_is | k_exc | kernel_rfl)
    (case tk_NoLook => first | k_is | k_exc | kernel_rfl)
    (case mo_NoLook => first | k_is | k_exc | kernel_rfl)
    (case mb_NoLook => first | k_is | k_exc | kernel_rfl)
    (case pg_Span => first | k_is | k_exc | kernel_rfl)
    (case hd_Span => first | k_is | k_exc | kernel_rfl)
    (case po_Span => first | k_is | k_exc | kernel_rfl)
    (case sa_Span => first | k_is | k_exc | kernel_rfl)
    (case mk_Span => first | k_is | k_exc | kernel_rfl)
    (case kc_Span => first | k_is | k_exc | kernel_rfl)
    (case na_Span_sums => first | k_is | k_exc | kernel_rfl)
    (case na_Span_taken => first | k_is | k_exc | kernel_rfl)
    (case pg_Draws => first | k_is | k_exc | kernel_rfl)
    (case hd_Draws => first | k_is | k_exc | kernel_rfl)
    (case po_Draws => first | k_is | k_exc | kernel_rfl)
    (case sa_Draws => first | k_is | k_exc | kernel_rfl)
    (case mk_Draws => first | k_is | k_exc | kernel_rfl)
    (case kc_Draws => first | k_is | k_exc | kernel_rfl)
    (case na_Draws_bits => first | k_is | k_exc | kernel_rfl)
    (case na_Draws_told => first | k_is | k_exc | kernel_rfl)
    (case pg_Signs => first | k_is | k_exc | kernel_rfl)
    (case hd_Signs => first | k_is | k_exc | kernel_rfl)
    (case po_Signs => first | k_is | k_exc | kernel_rfl)
    (case sa_Signs => first | k_is | k_exc | kernel_rfl)
    (case mk_Signs => first | k_is | k_exc | kernel_rfl)
    (case kc_Signs => first | k_is | k_exc | kernel_rfl)
    (case na_Signs_kept => first | k_is | k_exc | kernel_rfl)
    (case na_Signs_n => first | k_is | k_exc | kernel_rfl)
    (case cg_Machine___init__ => first | k_is | k_exc | kernel_rfl)
    (case cr_Machine___init__ => first | k_is | k_exc | kernel_rfl)
    (case ce_Machine___init__ => first | k_is | k_exc | kernel_rfl)
    (case z_len => k_is)
    (case z_isinstance => k_is)
    (case z_int => k_is)
    (case z_bool => k_is)
    (case z_range => k_is)
    (case z_max => k_is)
    (case z_all => k_is)
    (case z_tuple => k_is)
    (case z_list => k_is)
