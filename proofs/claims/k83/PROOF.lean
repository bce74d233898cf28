import PyProof.Rows.All
import Wide.All
import OpenK.AllK
import Wide.FinOn
import Lean
import PyProof.EqAt
import PyProof.EqKinds
import PyProof.TupleCall
import PyProof.ListStr
import KE.KStrOpen
import PyProof.Rows.StrFirst
import PyProof.Rows.StrMul
import Open.Pieces
import KE.KPairComp
import PyProof.DictValues
import PyProof.DictWalks
import PyProof.Rows.SumAny
import PyProof.AttrMissHeap
import KE.KDictOf
import KE.KDictList
import KE.KRevIter
import PyProof.Rows.SortWalk
import PyProof.Rows.SortRev
import PyProof.Rows.CallKwBuiltin
import PyProof.FString
import PyProof.FitsInt
import PyProof.Rows.FStr
import PyProof.Rows.Range3
import PyProof.EnumMake
import PySem.Challenge.RW_twinwires_k83_rows_and_wholes_listed
set_option maxRecDepth 100000
namespace Tw
open PySem PySem.Calls PySem.W PyProof.Rows

/-- the top's run on the tree of the heap, in one go; the count of the tokens is reckoned at each step -/
def runG (thr ok : Thread → Bool) (go : SharedT → Thread → Option (SharedT × Thread)) : Nat → SharedT → Thread → Option SharedT
  | 0, _, _ => none
  | m + 1, a, x => match thr x with
    | true => some a
    | false => match ok x with
      | false => none
      | true => match go a x with
        | some (b, y) => (match Nat.beq b.toks b.toks with
          | true => runG thr ok go m b y
          | false => none)
        | none => none

theorem runG_top {tb : String → Option Builtin} {p : Program} {w : World} {i : Nat} {an : Option Value} : ∀ (m : Nat) (a b : SharedT) (x : Thread),
    runG through (stepOk i an) (stepT (denote tb) p w) m a x = some b → topRun tb p w i an m a.abs x = some b.abs
  | 0, _, _, _, h => by cases h
  | m + 1, a, b, x, h => by
    unfold runG at h
    unfold topRun
    cases e1 : through x with
    | true => rw [e1] at h; cases h; rfl
    | false =>
      rw [e1] at h
      cases e2 : stepOk i an x with
      | false => rw [e2] at h; cases h
      | true =>
        rw [e2] at h
        cases e3 : stepT (denote tb) p w a x with
        | none => rw [e3] at h; cases h
        | some r =>
          obtain ⟨c, y⟩ := r
          rw [e3] at h
          rw [stepT_spec e3]
          dsimp only at h ⊢
          cases e4 : Nat.beq c.toks c.toks with
          | false => rw [e4] at h; cases h
          | true => rw [e4] at h; exact runG_top m c b y h

def runT (p : Program) (w : World) (i : Nat) (an : Option Value) (m : Nat) (a : SharedT) : Option SharedT := runG through (stepOk i an) (stepT (denote treeTable) p w) m a (topStub p)
noncomputable def bootT (P : Params) : BT := ((boot_heap P).objs.toList.foldl (fun (x : BT × Nat) o => (x.1.ins x.2 o, x.2 + 1)) (BT.nil, 0)).1
noncomputable def bootS (n : Nat) (w : World) (os : OsState) : SharedT := ⟨bootT w.params, n, (boot_heap w.params).life, Array.mk [], boot_drawn, boot_toks, os⟩

noncomputable def lookT (p q : Program) (lo : List Str) (Xt : Shared → Bool) (w : World) (s : Shared) :=
  ((staticsOk (importedModules p.main.body) (boot_heap w.params) s.heap && namesBound p s.heap && gensDone s && laidKept (boot_heap w.params) s.heap), openSeen q lo (importedModules p.main.body) Xt true s)

theorem left_once {p q : Program} {lo : List Str} {Xt : Shared → Bool} {β : Type} {Yf : Shared → β} {Ya : World → β} {N M n : Nat} {an : Option Value} (row : String)
    (e : opening p = plainProg p.main.scope.names) (h6 : Nat.ble 600 N = true) (fe : ∀ s, fenceModules? p s = some s)
    (tr : ∀ P, absHeap (bootT P) n (boot_heap P).life = boot_heap P)
    (sz : ∀ P, ((boot_heap P).isNs mainGlobals, (boot_heap P).objs.size, (boot_heap P).nsMap mainGlobals "__annotations__") = (true, n, an))
    (le : Nat.ble M N = true)
    (run0 : ∀ (w : World) (os : OsState), (runT p (w.withFollow row false) n an M (bootS n (w.withFollow row false) os)).map (fun s => (lookT p q lo Xt (w.withFollow row false) s.abs, Yf s.abs)) = some ((true, openGood q lo), Ya (w.withFollow row false)))
    (run1 : ∀ (w : World) (os : OsState), (runT p (w.withFollow row true) n an M (bootS n (w.withFollow row true) os)).map (fun s => (lookT p q lo Xt (w.withFollow row true) s.abs, Yf s.abs)) = some ((true, openGood q lo), Ya (w.withFollow row true))) :
    LeftO p q lo Xt Yf Ya N true := byRow2 row (P := fun w => (openEnds treeTable p w N).map (fun s => (openSeen q lo (importedModules p.main.body) Xt true s, Yf s)) = some (openGood q lo, Ya w)) (fun w => one _ (run0 w)) (fun w => one _ (run1 w))
  where
  one (w : World) (run : ∀ os : OsState, (runT p w n an M (bootS n w os)).map (fun s => (lookT p q lo Xt w s.abs, Yf s.abs)) = some ((true, openGood q lo), Ya w)) :
      (openEnds treeTable p w N).map (fun s => (openSeen q lo (importedModules p.main.body) Xt true s, Yf s)) = some (openGood q lo, Ya w) := by
    obtain ⟨⟨h, gs, d, k, os⟩, a1, a2⟩ := Option.map_eq_some_iff.mp (boot_open e h6 fe w)
    simp only [Prod.mk.injEq] at a2
    obtain ⟨rfl, rfl, rfl, rfl⟩ := a2
    obtain ⟨b, b1, b2⟩ := Option.map_eq_some_iff.mp (run os)
    simp only [Prod.mk.injEq, lookT] at b2
    obtain ⟨⟨l1, l2⟩, l3⟩ := b2
    have r : topRun treeTable p w n an M ⟨boot_heap w.params, Array.mk [], boot_drawn, boot_toks, os⟩ (topStub p) = some b.abs := by
      have := runG_top _ _ _ _ b1
      rw [← tr w.params]
      exact this
    have r := topRun_mono (N - M) _ _ _ _ r
    rw [show M + (N - M) = N by have := Nat.le_of_ble_eq_true le; omega] at r
    have z := sz w.params
    simp only [Prod.mk.injEq] at z
    obtain ⟨z1, z2, z3⟩ := z
    have t : topFrom treeTable p w N ⟨boot_heap w.params, Array.mk [], boot_drawn, boot_toks, os⟩ = some b.abs := by
      unfold topFrom
      dsimp only
      rw [z1, z2, z3, r]
      show (match staticsOk (importedModules p.main.body) (boot_heap w.params) b.abs.heap && namesBound p b.abs.heap && gensDone b.abs && laidKept (boot_heap w.params) b.abs.heap with | true => some b.abs | false => none) = _
      rw [l1]
    unfold openEnds
    rw [a1]
    show (topFrom treeTable p w N _).map _ = _
    rw [t]
    exact congrArg some (Prod.ext l2 l3)
theorem runT_self : Tw.runT = Tw.runT := rfl
theorem lookT_self : @Tw.lookT = @Tw.lookT := rfl
end Tw
lay_quick Tw.runT Tw.lookT
name_quick runQ for Tw.runT by Tw.runT_self
name_quick lookQ for Tw.lookT by Tw.lookT_self
namespace Tw
open PySem PySem.Calls PySem.W PyProof.Rows
theorem boot_tree (P : Params) : absHeap (bootT P) 11 (boot_heap P).life = boot_heap P := by kernel_rfl
theorem boot_size (P : Params) : ((boot_heap P).isNs mainGlobals, (boot_heap P).objs.size, (boot_heap P).nsMap mainGlobals "__annotations__") = (true, 11, some (.ref 6)) := by kernel_rfl
/-- the top's run in one go, one way of the world's row: what is seen behind it -/
def RunOk (r : OpenRow) (q : Program) (lo : List Str) (lv : List (Str × WData)) (H : Hook) (N : Nat) (row : String) (b : Bool) : Prop :=
  ∀ (w : World) (os : OsState), (Fast.runQ r.prog (w.withFollow row b) 11 (some (.ref 6)) N (bootS 11 (w.withFollow row b) os)).map (fun s => (Fast.lookQ r.prog q lo (fun s => xlAt q lv s && recOk r.records s) (w.withFollow row b) s.abs, H.obs s.abs)) = some ((true, openGood q lo), H.val (w.withFollow row b))
/-- the top in one go, then the call: the law holds -/
theorem holds_once {r : OpenRow} {q : Program} {lo : List Str} {lv : List (Str × WData)} {d : DefRec} {kwd : List (Str × Expr)} {N : Nat} {H : Hook} {row : String} (run0 : RunOk r q lo lv H N row false) (run1 : RunOk r q lo lv H N row true)
    (e : opening r.prog = plainProg r.prog.main.scope.names) (fe : ∀ s, fenceModules? r.prog s = some s) (h6 : Nat.ble 600 N = true)
    (hd : defOf q r.name = some (d, kwd)) (hp : r.prog.theDef r.name = some (d.params, d.body, d.scope)) (hk : kwWritten? d.params.kwonlyargs d.params.kw_defaults = some kwd) (hwr : (!r.writes || r.records.isEmpty) = true)
    (k1 : r.wellSaid = true) (ok : (chainsOk q && opensWell r.prog && (frees r.toRowW && r.within.isEmpty)) = true) (hb : r.prog.bare) (hw : r.toRowW.promised) (hc : WalkO q lo (XL q lv) H.says r.toRowW d kwd fun f vs => PySem.call f vs) : r.Holds :=
  holds_open (Xt := fun s => xlAt q lv s && recOk r.records s) (N := N)
    (left_once (M := N) row e h6 fe boot_tree boot_size (Nat.ble_eq.mpr (Nat.le_refl N)) (by rw [Fast.runQ_eq, Fast.lookQ_eq]; exact run0) (by rw [Fast.runQ_eq, Fast.lookQ_eq]; exact run1))
    H.of H.keeps (fun s z => xl_of s (Bool.and_eq_true_iff.mp z).1) XL.keeps hd hp hk (fun s z => recFacts_of (Bool.and_eq_true_iff.mp z).2) hwr k1 ok hb hw hc
end Tw

set_option Elab.async false
set_option maxRecDepth 100000
/-! the top -/
section
open PySem PySem.W
set_option maxHeartbeats 0
local macro_rules | `(tactic| o_head $_) => `(tactic| assumption)
theorem Tw.pre : PySem.Challenge.rw_twinwires_k83_rows_and_wholes_listed.row.Holds → PySem.Challenge.rw_twinwires_k83_rows_and_wholes_listed.row.Holds := by
  intro _
  k_head
noncomputable def Tw.vw : Program := PySem.W.view PySem.Challenge.pw_twinwires_k83_rows_and_wholes_listed [1, 3, 4, 5, 6, 7, 8, 10, 11, 12, 14, 15, 16, 17, 18, 19, 20, 21, 22]
noncomputable def Tw.hk : PySem.W.Hook := PySem.W.kHook Tw.pre.heap_1 [2, 3, 6, 15, 17, 18, 20, 21, 22, 25, 26, 27, 29, 30, 32, 33, 34, 37, 38, 39, 42, 43, 44, 47, 48, 49, 51, 52, 54, 55, 56, 58, 59, 61, 62, 63, 65, 66, 68, 69, 70, 72, 73, 75, 76, 77, 79, 80, 82, 83, 84, 86, 87, 89, 90, 91, 93, 94, 96, 97, 98, 100, 101, 103, 104, 105, 108, 109] (fun _ => by kernel_rfl)
theorem Tw.run0 : Tw.RunOk PySem.Challenge.rw_twinwires_k83_rows_and_wholes_listed.row Tw.vw [] [] Tw.hk 1168 "special-get-raises" false := fun w os => by kernel_rfl
theorem Tw.run1 : Tw.RunOk PySem.Challenge.rw_twinwires_k83_rows_and_wholes_listed.row Tw.vw [] [] Tw.hk 1168 "special-get-raises" true := fun w os => by kernel_rfl
end
/-! the top ends -/

-- CHANGE: your row's module here, as the last of these rows
set_option Elab.async false
set_option linter.all false
set_option maxRecDepth 100000
/-! THE HAND LAYER, for ints, bools, texts, own classes, LISTS and tuples (index, slices, in, append, pop ..), calls, loops. Paste it whole ahead of your own text; what your proof does not reach may be deleted. -/
namespace L2
open PySem PySem.Spec PyProof.Rows

/-- a key: an int or a str -/
abbrev Key := Sum Int Str
def keyIs : Key → Value → Bool
  | .inl k, v => Value.isInt k v
  | .inr x, v => Value.isStrOf x v
def keyH (w : World) : Key → Int
  | .inl k => hashInt k
  | .inr x => hashStr w x
theorem keyIs_shape : ∀ {k : Key} {v : Value}, keyIs k v = true → (∃ i t, k = Sum.inl i ∧ v = Value.int i t) ∨ (∃ x t, k = Sum.inr x ∧ v = Value.str x t)
  | .inl i, v, h => by
    obtain ⟨t, e⟩ := Value.isInt_shape (k := i) (v := v) h
    exact .inl ⟨i, t, rfl, e⟩
  | .inr x, v, h => by
    obtain ⟨t, e⟩ := Value.isStrOf_shape (x := x) (v := v) h
    exact .inr ⟨x, t, rfl, e⟩
theorem keyIs_int (i : Int) (t : Tok) : keyIs (.inl i) (.int i t) = true := by simp [keyIs, Value.isInt]
theorem keyIs_str (x : Str) (t : Tok) : keyIs (.inr x) (.str x t) = true := by simp [keyIs, Value.isStrOf]
theorem key_ll (a b : Int) : decide ((Sum.inl a : Key) = Sum.inl b) = (a == b) := by
  by_cases e : a = b
  · subst e; simp
  · have h : ¬ (Sum.inl a : Key) = Sum.inl b := fun q => e (Sum.inl.inj q)
    rw [decide_eq_false h]
    exact (beq_eq_false_iff_ne.mpr e).symm
theorem key_rr (a b : Str) : decide ((Sum.inr a : Key) = Sum.inr b) = decide (a = b) := by
  by_cases e : a = b
  · subst e; simp
  · have h : ¬ (Sum.inr a : Key) = Sum.inr b := fun q => e (Sum.inr.inj q)
    rw [decide_eq_false h, decide_eq_false e]
theorem key_lr (a : Int) (b : Str) : decide ((Sum.inl a : Key) = Sum.inr b) = false := decide_eq_false (fun q => nomatch q)
theorem key_rl (a : Str) (b : Int) : decide ((Sum.inr a : Key) = Sum.inl b) = false := decide_eq_false (fun q => nomatch q)

def mixKind (prog : Program) (w : World) : PySem.KeyKind prog w Key where
  is := keyIs
  hash := keyH w
  inj := fun v a b ha hb => by
    rcases keyIs_shape ha with ⟨i, t, rfl, rfl⟩ | ⟨x, t, rfl, rfl⟩
    · rcases keyIs_shape hb with ⟨j, u, rfl, e⟩ | ⟨y, u, rfl, e⟩
      · injection e with e1 _; rw [e1]
      · exact nomatch e
    · rcases keyIs_shape hb with ⟨j, u, rfl, e⟩ | ⟨y, u, rfl, e⟩
      · exact nomatch e
      · injection e with e1 _; rw [e1]
  byValue := fun k v h => by
    rcases keyIs_shape h with ⟨i, t, rfl, rfl⟩ | ⟨x, t, rfl, rfl⟩ <;> rfl
  pyHash := fun hv h => by
    rcases keyIs_shape hv with ⟨i, t, rfl, rfl⟩ | ⟨x, t, rfl, rfl⟩
    · exact wpAny_pyHash_int h
    · exact wpAny_pyHash_str h
  eqBool := fun hu hv h => by
    rcases keyIs_shape hu with ⟨i, t, rfl, rfl⟩ | ⟨x, t, rfl, rfl⟩
    · rcases keyIs_shape hv with ⟨j, u, rfl, rfl⟩ | ⟨y, u, rfl, rfl⟩
      · rw [key_ll] at h; exact wpAny_eqBool_int h
      · rw [key_lr] at h; exact SeqAt.EqAt.int_str i t y u _ _ _ _ h
    · rcases keyIs_shape hv with ⟨j, u, rfl, rfl⟩ | ⟨y, u, rfl, rfl⟩
      · rw [key_rl] at h; exact SeqAt.EqAt.str_int x t j u _ _ _ _ h
      · rw [key_rr] at h; exact wpAny_eqBool_str h
  «strs» := fun k x t v h => by
    rcases keyIs_shape h with ⟨i, u, rfl, e⟩ | ⟨y, u, rfl, e⟩
    · exact nomatch e
    · injection e with e1 _
      subst e1
      cases v <;> rfl

theorem mixKind_int (prog : Program) (w : World) (i : Int) (t : Tok) : (mixKind prog w).is (.inl i) (.int i t) = true := keyIs_int i t
theorem mixKind_str (prog : Program) (w : World) (x : Str) (t : Tok) : (mixKind prog w).is (.inr x) (.str x t) = true := keyIs_str x t
end L2

namespace L2
open PySem PySem.Spec PyProof.Rows

/-- a value, without the heap -/
inductive V where
  | non | bl (b : Bool) | int (i : Int) | str (x : Str) | byt (b : Array UInt8) | flt (b : UInt64) | ref (a : Addr) | ty (n : String)
  deriving DecidableEq

def RelV : V → Value → Prop
  | .non, u => u = Value.none
  | .bl b, u => u = Value.bool b
  | .int i, u => ∃ t, u = Value.int i t
  | .str x, u => ∃ t, u = Value.str x t
  | .byt b, u => ∃ t, u = Value.bytes b t
  | .flt b, u => ∃ t, u = Value.float b t
  | .ref a, u => u = Value.ref a
  | .ty n, u => u = Value.type n

abbrev Vals : List V → List Value → Prop := Paired RelV
theorem Vals.length {xs : List V} {us : List Value} (r : Vals xs us) : xs.length = us.length := Paired.length r
theorem Vals.get : ∀ {xs : List V} {us : List Value} {i : Nat} {x : V}, Vals xs us → xs[i]? = some x → ∃ u, us[i]? = some u ∧ RelV x u
  | _, _, _, _, .nil, e => by simp at e
  | _, _, 0, _, .cons r _, e => by simp at e; subst e; exact ⟨_, rfl, r⟩
  | _, _, i + 1, x, .cons _ t, e => by
    obtain ⟨u, h1, h2⟩ := Vals.get (i := i) (x := x) t (by simpa using e)
    exact ⟨u, by simpa using h1, h2⟩
theorem Vals.append : ∀ {xs ys : List V} {us ws : List Value}, Vals xs us → Vals ys ws → Vals (xs ++ ys) (us ++ ws)
  | _, _, _, _, .nil, s => s
  | _, _, _, _, .cons r t, s => .cons r (Vals.append t s)
theorem Vals.take : ∀ {xs : List V} {us : List Value} (n : Nat), Vals xs us → Vals (xs.take n) (us.take n)
  | _, _, 0, _ => .nil
  | _, _, _ + 1, .nil => .nil
  | _, _, n + 1, .cons r t => .cons r (Vals.take n t)
theorem Vals.drop : ∀ {xs : List V} {us : List Value} (n : Nat), Vals xs us → Vals (xs.drop n) (us.drop n)
  | _, _, 0, r => r
  | _, _, _ + 1, .nil => .nil
  | _, _, n + 1, .cons _ t => Vals.drop n t
def RelO : Option V → Option Value → Prop
  | some v, some u => RelV v u
  | none, none => True
  | _, _ => False
def KV {κ : Type} : List (κ × V) → List (κ × Value) → Prop := Paired fun (p : κ × V) (q : κ × Value) => p.1 = q.1 ∧ RelV p.2 q.2

/-- a key of a dict (00_mix): an int or a text -/
def kV : Key → V
  | .inl i => .int i
  | .inr x => .str x

/-- what stands at a tracked address -/
inductive HO where
  /-- a list -/
  | lst (xs : List V)
  /-- a tuple (never changes) -/
  | tup (xs : List V)
  /-- a dict whose keys are ints and texts; one whose keys are tuples of ints and texts (the empty one is both) -/
  | dK (kvs : List (Key × V)) | dT (kvs : List (List Key × V))
  /-- a set of ints: its members, its size -/
  | set (S : Int → Bool) (n : Nat)
  /-- an instance of the class at C, its dict at dx, its attributes -/
  | ins (C dx : Addr) (fs : List (Str × V))
  /-- the dict of the instance at x -/
  | own (x : Addr)
  /-- the dict of an exception -/
  | xd (fs : List (Str × V))
  /-- a bound method, f of x -/
  | met (f x : Addr)
  /-- a range object lo, lo + 1, .. below hi -/
  | rng (lo hi : Int)
  /-- a thing that is known to the object (the script; a dict while a loop walks it): read, never written while it is so -/
  | frz (o : Obj) (u : HO)
  /-- a code object's table -/
  | tbl (ps : Array Value)
  /-- any other thing, by what is true of its one object (a def of one's own: SetO a S n := HO.ext fun h => ..) -/
  | ext (φ : Heap → Prop)

abbrev Hp := Addr → Option HO
def upd (H : Hp) (a : Addr) (o : HO) : Hp := fun b => if b = a then some o else H b
theorem upd_same {H : Hp} {a : Addr} {o : HO} : upd H a o a = some o := by unfold upd; rw [if_pos rfl]
theorem upd_ne {H : Hp} {a b : Addr} {o : HO} (h : b ≠ a) : upd H a o b = H b := by unfold upd; rw [if_neg h]
/-- two objects of different content stand apart -/
theorem ne_of {H : Hp} {a b : Addr} {o u : HO} (h : H a = some o) (h' : H b = some u) (d : o ≠ u) : a ≠ b := by
  intro e; subst e; rw [h] at h'; exact d (Option.some.inj h')
theorem ne_of_none {H : Hp} {a b : Addr} {o : HO} (h : H a = some o) (h' : H b = none) : a ≠ b := by
  intro e; subst e; rw [h] at h'; cases h'

section
variable (P : Program) (w : World)
def ObjOk (H : Hp) (h : Heap) (a : Addr) : HO → Prop
  | .lst xs => xs.length ≤ sizeLine ∧ ∃ (its : List Value) (n : Nat), Vals xs its ∧ h.get? a = some { cls := .type "list", data := .seq its.toArray n }
  | .tup xs => xs.length ≤ sizeLine ∧ ∃ its : List Value, Vals xs its ∧ IsTup h a its.toArray
  | .dK kvs => kvs.length ≤ sizeLine ∧ (a == sysModules) = false ∧ ∃ vs, KV kvs vs ∧ h.DictOf (mixKind P w) a vs
  | .dT kvs => kvs.length ≤ sizeLine ∧ (a == sysModules) = false ∧ ∃ xs : List (List Key × Addr × Value),
      Paired (fun (p : List Key × V) (q : List Key × Addr × Value) => p.1 = q.1 ∧ H q.2.1 = some (.tup (p.1.map kV)) ∧ RelV p.2 q.2.2) kvs xs ∧
      ∃ o es ep, h.get? a = some o ∧ o.ExactDict ∧ o.data = .dict es ep ∧ es.toList = xs.map (entryOfKey (tupleKind (mixKind P w))) ∧ (xs.map (·.1)).Nodup
  | .set S n => h.SetOf (intKind P w) a S n
  | .ins C dx fs => H dx = some (.own a) ∧ fs.length ≤ 1000 ∧ dx ≠ a ∧ h.get? a = some (PySem.W.instObj C dx) ∧
      ∃ mA, h.Ns1 dx mA ∧ (∀ f, RelO (fs.lookup f) (mA f)) ∧ PySem.Within mA (fs.map (·.1))
  | .own _ => ∃ o, h.get? a = some o
  | .xd fs => ∃ mA, h.Ns1 a mA ∧ ∀ f, RelO (fs.lookup f) (mA f)
  | .rng lo hi => ∃ t u v, h.get? a = some { cls := .type "range", data := .fields #[.int lo t, .int hi u, .int 1 v] }
  | .frz o u => h.get? a = some o ∧ ObjOk H h a u
  | .tbl ps => h.get? a = some { cls := .none, data := .fields ps }
  | .met f x => h.get? a = some (PySem.W.methodObj (.ref f) (.ref x))
  | .ext φ => φ h ∧ (∃ o, h.get? a = some o) ∧ ∀ h1 h2 : Heap, φ h1 → (∀ o, h1.get? a = some o → h2.get? a = some o) → φ h2
/-- the abstract heap is held -/
def HOk (H : Hp) (h : Heap) : Prop := ∀ a o, H a = some o → ObjOk P w H h a o
end

section
variable {P : Program} {w : World} {H H' : Hp} {h h' : Heap} {a : Addr} {o : HO}
theorem ObjOk.lt (x : ObjOk P w H h a o) : a < h.objs.size := by
  cases o with
  | lst xs => obtain ⟨_, _, _, _, e⟩ := x; exact Heap.lt_size e
  | tup xs => obtain ⟨_, _, _, p⟩ := x; exact p.lt
  | dK kvs => obtain ⟨_, _, _, _, o, _, _, e, _⟩ := x; exact Heap.lt_size e
  | dT kvs => obtain ⟨_, _, _, _, o, _, _, e, _⟩ := x; exact Heap.lt_size e
  | set S n => obtain ⟨o, _, _, _, e, _⟩ := x; exact Heap.lt_size e
  | ins C dx fs => obtain ⟨_, _, _, e, _⟩ := x; exact Heap.lt_size e
  | own y => obtain ⟨_, e⟩ := x; exact Heap.lt_size e
  | xd fs => obtain ⟨_, ⟨_, _, _, e, _⟩, _⟩ := x; exact Heap.lt_size e
  | rng lo hi => obtain ⟨_, _, _, e⟩ := x; exact Heap.lt_size e
  | frz ob u => obtain ⟨e, _⟩ := x; exact Heap.lt_size e
  | tbl ps => exact Heap.lt_size (show h.get? a = some _ from x)
  | met f y => exact Heap.lt_size (show h.get? a = some _ from x)
  | ext φ => obtain ⟨_, ⟨_, e⟩, _⟩ := x; exact Heap.lt_size e
theorem Paired.mapP {α β : Type} {F G : α → β → Prop} : ∀ {l₁ : List α} {l₂ : List β}, Paired F l₁ l₂ → (∀ a b, F a b → G a b) → Paired G l₁ l₂
  | _, _, .nil, _ => .nil
  | _, _, .cons r t, f => .cons (f _ _ r) (Paired.mapP t f)
/-- what an object's description leans on: its own object, its own dict, the tuples -/
theorem ObjOk.stay (x : ObjOk P w H h a o) (k : ∀ b u, (b = a ∨ H b = some (.own a)) → h.get? b = some u → h'.get? b = some u)
    (ho : ∀ b, H b = some (.own a) → H' b = some (.own a)) (ht : ∀ b xs, H b = some (.tup xs) → H' b = some (.tup xs)) : ObjOk P w H' h' a o := by
  induction o with
  | lst xs => obtain ⟨z, its, n, r, e⟩ := x; exact ⟨z, its, n, r, k _ _ (.inl rfl) e⟩
  | tup xs => obtain ⟨z, its, r, ob, e, c⟩ := x; exact ⟨z, its, r, ob, k _ _ (.inl rfl) e, c⟩
  | dK kvs => obtain ⟨z, y, vs, r, ob, es, ep, e, c⟩ := x; exact ⟨z, y, vs, r, ob, es, ep, k _ _ (.inl rfl) e, c⟩
  | dT kvs =>
    obtain ⟨z, y, xs, r, ob, es, ep, e, c⟩ := x
    exact ⟨z, y, xs, Paired.mapP r fun p q z => ⟨z.1, ht _ _ z.2.1, z.2.2⟩, ob, es, ep, k _ _ (.inl rfl) e, c⟩
  | set S n => obtain ⟨ob, es, ep, t, e, c⟩ := x; exact ⟨ob, es, ep, t, k _ _ (.inl rfl) e, c⟩
  | ins C dx fs =>
    obtain ⟨d, z, ne, e, mA, ⟨od, es, ep, e2, c⟩, r⟩ := x
    exact ⟨ho _ d, z, ne, k _ _ (.inl rfl) e, mA, ⟨od, es, ep, k _ _ (.inr d) e2, c⟩, r⟩
  | own y => obtain ⟨ob, e⟩ := x; exact ⟨ob, k _ _ (.inl rfl) e⟩
  | xd fs => obtain ⟨mA, ⟨od, es, ep, e, c⟩, r⟩ := x; exact ⟨mA, ⟨od, es, ep, k _ _ (.inl rfl) e, c⟩, r⟩
  | rng lo hi => obtain ⟨t, u, v, e⟩ := x; exact ⟨t, u, v, k _ _ (.inl rfl) e⟩
  | frz ob u ih => obtain ⟨e, q⟩ := x; exact ⟨k _ _ (.inl rfl) e, ih q⟩
  | tbl ps =>
    have e : h.get? a = some { cls := .none, data := .fields ps } := x
    show h'.get? a = some { cls := .none, data := .fields ps }
    exact k a _ (.inl rfl) e
  | met f y =>
    have e : h.get? a = some (PySem.W.methodObj (.ref f) (.ref y)) := x
    show h'.get? a = some (PySem.W.methodObj (.ref f) (.ref y))
    exact k a _ (.inl rfl) e
  | ext φ => obtain ⟨p, ⟨o, e⟩, st⟩ := x; exact ⟨st _ _ p fun o q => k _ _ (.inl rfl) q, ⟨o, k _ _ (.inl rfl) e⟩, st⟩
theorem HOk.lt (x : HOk P w H h) (e : H a = some o) : a < h.objs.size := (x a o e).lt
theorem HOk.fresh (x : HOk P w H h) (e : h.objs.size ≤ a) : H a = none := by
  cases q : H a with
  | none => rfl
  | some u => exact absurd (Nat.lt_of_lt_of_le (x.lt q) e) (Nat.lt_irrefl _)
/-- every object of the heap is kept -/
theorem HOk.kept (x : HOk P w H h) (k : ∀ b u, h.get? b = some u → h'.get? b = some u) : HOk P w H h' := fun a o e =>
  (x a o e).stay (fun b u _ q => k b u q) (fun _ q => q) fun _ _ q => q
/-- a new object is laid and tracked -/
theorem HOk.laid (x : HOk P w H h) (k : ∀ b u, h.get? b = some u → h'.get? b = some u) (hp : h.objs.size ≤ a) (new : ObjOk P w (upd H a o) h' a o) : HOk P w (upd H a o) h' := fun b u e => by
  have hn := x.fresh hp
  by_cases hb : b = a
  · subst hb; rw [upd_same] at e; cases e; exact new
  · rw [upd_ne hb] at e
    exact (x b u e).stay (fun c v _ q => k c v q) (fun c q => by rw [upd_ne (ne_of_none q hn)]; exact q) fun c xs q => by rw [upd_ne (ne_of_none q hn)]; exact q
end

/-- what may be read as u: it is u, or a known u -/
def Rd (H : Hp) (a : Addr) (u : HO) : Prop := H a = some u ∨ ∃ o, H a = some (.frz o u)
theorem Rd.ok {P : Program} {w : World} {H : Hp} {h : Heap} {a : Addr} {u : HO} (r : Rd H a u) (x : HOk P w H h) : ObjOk P w H h a u := by
  rcases r with r | ⟨o, r⟩
  · exact x a u r
  · obtain ⟨_, q⟩ := x a _ r
    exact q
/-- what may be written -/
def Mut : Option HO → Prop
  | some (.lst _) => True
  | some (.dK _) => True
  | some (.dT _) => True
  | some (.set _ _) => True
  | some (.ins _ _ _) => True
  | some (.ext _) => True
  | _ => False
section
variable {P : Program} {w : World} {H : Hp} {h h' : Heap} {x e : Addr} {o' : HO}
/-- the object at e is changed: x itself, or the dict of the instance x -/
theorem HOk.write (ok : HOk P w H h) (mu : Mut (H x)) (he : e = x ∨ H e = some (.own x)) (k : ∀ b u, b ≠ e → h.get? b = some u → h'.get? b = some u) (heo : ∃ u, h'.get? e = some u)
    (new : ObjOk P w (upd H x o') h' x o') : HOk P w (upd H x o') h' := fun b u q => by
  have nown : ∀ c y, H c = some (.own y) → c ≠ x := fun c y r z => by subst z; rw [r] at mu; exact mu
  have ntup : ∀ c xs, H c = some (.tup xs) → c ≠ x := fun c xs r z => by subst z; rw [r] at mu; exact mu
  by_cases hb : b = x
  · subst hb; rw [upd_same] at q; cases q; exact new
  · rw [upd_ne hb] at q
    by_cases hbe : b = e
    · have q' : H b = some (.own x) := by
        rcases he with z | z
        · exact absurd (hbe.trans z) hb
        · rw [hbe]; exact z
      rw [q] at q'; cases q'
      obtain ⟨v, hv⟩ := heo
      exact ⟨v, by rw [hbe]; exact hv⟩
    · refine (ok b u q).stay (fun c v hc r => k c v ?_ r) (fun c r => by rw [upd_ne (nown c b r)]; exact r) fun c xs r => by rw [upd_ne (ntup c xs r)]; exact r
      rcases hc with rfl | hc
      · exact hbe
      · rintro rfl
        rcases he with z | z
        · exact nown c b hc z
        · rw [hc] at z; cases z; exact hb rfl
end

/-! ### kept unless tracked; of the frames at fs (the callers') the slots may change (an exception that passes writes there); of the records at ex (iterators) nothing is said -/
structure Un (fs ex : List Addr) (H H' : Hp) (h h' : Heap) : Prop where
  keep : ∀ b o, h.get? b = some o → H b = none → b ∉ fs → b ∉ ex → h'.get? b = some o
  slot : ∀ b o, h.get? b = some o → H b = none → b ∈ fs → b ∉ ex → ∃ sl, h'.get? b = some { o with slots := sl }
  free : ∀ b o, h.get? b = some o → H b = none → b ∉ ex → H' b = none
  there : ∀ b o, h.get? b = some o → b ∉ ex → ∃ o', h'.get? b = some o'
  tups : ∀ b xs, H b = some (.tup xs) → H' b = some (.tup xs)
  frzs : ∀ b o u, H b = some (.frz o u) → H' b = some (.frz o u)
  tbls : ∀ b ps, H b = some (.tbl ps) → ∃ more, H' b = some (.tbl (ps ++ more))
section
variable {fs fs' ex ex' : List Addr} {H H1 H2 : Hp} {h h1 h2 h' : Heap} {a x e : Addr} {o : HO}
theorem Un.any (u : Un fs ex H H1 h h1) {b : Addr} {ob : Obj} (q : h.get? b = some ob) (n : H b = none) (hx : b ∉ ex) : ∃ sl, h1.get? b = some { ob with slots := sl } := by
  by_cases hb : b ∈ fs
  · exact u.slot b ob q n hb hx
  · exact ⟨ob.slots, u.keep b ob q n hb hx⟩
theorem Un.kept (k : ∀ b u, h.get? b = some u → h'.get? b = some u) : Un fs ex H H h h' :=
  ⟨fun b ob q _ _ _ => k b ob q, fun b ob q _ _ _ => ⟨ob.slots, k b ob q⟩, fun _ _ _ n _ => n, fun b ob q _ => ⟨ob, k b ob q⟩, fun _ _ q => q, fun _ _ _ q => q, fun _ ps q => ⟨#[], by rw [q]; simp⟩⟩
theorem Un.refl : Un fs ex H H h h := Un.kept fun _ _ q => q
theorem Un.laid (k : ∀ b u, h.get? b = some u → h'.get? b = some u) (hp : h.objs.size ≤ a) (hn : H a = none) : Un fs ex H (upd H a o) h h' where
  keep := fun b u q _ _ _ => k b u q
  slot := fun b u q _ _ _ => ⟨u.slots, k b u q⟩
  free := fun b u q n _ => by rw [upd_ne (Nat.ne_of_lt (Nat.lt_of_lt_of_le (Heap.lt_size q) hp))]; exact n
  there := fun b u q _ => ⟨u, k b u q⟩
  tups := fun b xs q => by rw [upd_ne (ne_of_none q hn)]; exact q
  frzs := fun b u xs q => by rw [upd_ne (ne_of_none q hn)]; exact q
  tbls := fun b ps q => ⟨#[], by rw [upd_ne (ne_of_none q hn), q]; simp⟩
theorem Un.write (mu : Mut (H x)) (he : e = x ∨ H e = some (.own x)) (k : ∀ b u, b ≠ e → h.get? b = some u → h'.get? b = some u) (heo : ∃ u, h'.get? e = some u) : Un fs ex H (upd H x o) h h' := by
  have hx : ∀ b, H b = none → b ≠ x := fun b n z => by subst z; rw [n] at mu; exact mu
  have hb : ∀ b, H b = none → b ≠ e := fun b n z => by
    subst z
    rcases he with r | r
    · exact hx b n r
    · rw [n] at r; cases r
  have hm : ∀ b u, H b = some u → ¬ Mut (some u) → b ≠ x := fun b u q nm z => by subst z; rw [q] at mu; exact nm mu
  refine ⟨fun b u q n _ _ => k b u (hb b n) q, fun b u q n _ _ => ⟨u.slots, k b u (hb b n) q⟩, fun b u q n _ => by rw [upd_ne (hx b n)]; exact n, fun b u q _ => ?_,
    fun b xs q => by rw [upd_ne (hm b _ q fun z => z)]; exact q, fun b u xs q => by rw [upd_ne (hm b _ q fun z => z)]; exact q, fun b ps q => ⟨#[], by rw [upd_ne (hm b _ q fun z => z), q]; simp⟩⟩
  by_cases hbe : b = e
  · subst hbe; exact heo
  · exact ⟨u, k b u hbe q⟩
end

/-! ### the heap without what is tracked -/
def trk (h : Heap) (H : Hp) : List Addr := (List.range h.objs.size).filter fun a => (H a).isSome
def hidT (h : Heap) (H : Hp) : Heap := PySem.W.hideAll h (trk h H)
theorem hidT_size (h : Heap) (H : Hp) : (hidT h H).objs.size = h.objs.size := PySem.W.hideAll_size _ _
theorem hidT_get {h : Heap} {H : Hp} {b : Addr} {o : Obj} (e : h.get? b = some o) (n : H b = none) : (hidT h H).get? b = some o :=
  PySem.W.hideAll_get _ e fun hm => by
    have q : (H b).isSome = true := (List.mem_filter.mp hm).2
    rw [n] at q; simp at q
theorem of_hidT {h : Heap} {H : Hp} {b : Addr} {o : Obj} (e : (hidT h H).get? b = some o) : h.get? b = some o ∧ H b = none := by
  have e' : h.get? b = some o := PySem.W.of_hideAll (trk h H) e
  refine ⟨e', ?_⟩
  cases q : H b with
  | none => rfl
  | some x =>
    have hm : b ∈ trk h H := List.mem_filter.mpr ⟨List.mem_range.mpr (Heap.lt_size e'), by simp [q]⟩
    have z : (hidT h H).get? b = none := PySem.W.hideAll_none (trk h H) hm
    rw [z] at e; cases e

/-! ### OpenK's ledger, filled with every new object but one -/
def allNews (g h : Heap) (L : Addr) : List (Addr × Obj) := (List.range h.objs.size).filterMap fun a => if a = L ∨ (g.get? a).isSome = true then none else (h.get? a).map fun o => (a, o)
def rest (g h : Heap) (L d : Addr) : List (Addr × Obj) := (allNews g h L).filter fun p => decide (p.1 ≠ d)
end L2

namespace L2
open PySem PySem.Spec PyProof.Rows

/-- the module's facts, over the base: the heap at the law's entry without what is tracked there -/
structure Mod (K : PySem.W.Frag) (mg : Str → Option Value) (base : Heap) : Prop where
  kin : K.In base
  glob : base.Ns mainGlobals mg
  blt : ∃ mb, base.Ns builtinsNs mb ∧ ∀ x : Str, x ≠ "__name__" → mb x = bootBuiltins x
  nolimit : base.NoLimit

/-- the context: a def's body (or a comprehension's block) running. base: fixed through the whole law; s₀, H₀: the entry; outer: the frames whose slots others may change (a def's callers); stack: all frames that run;
   ex: iterators that were made ahead of the entry and are walked here (a comprehension's); fn: the names whose cells were made at the entry (a def: all; a comprehension's block: its own); calm: not within an except suite; pn: pins that every state bears; xe: what is wanted of an exception that leaves the code -/
structure Cx where
  prog : Program
  w : World
  K : PySem.W.Frag
  mg : Str → Option Value
  base : Heap
  A : Around
  N : List Str
  s₀ : Shared
  H₀ : Hp
  env : Env
  outer : List Env
  stack : List Env
  ex : List Addr
  fn : Str → Bool
  calm : Bool
  pn : List (Addr × Obj)
  xe : Value → Shared → Prop
/-- the callers' frames -/
def frs (l : List Env) : List Addr := l.filterMap (·.frame)
abbrev Cx.fs (X : Cx) : List Addr := frs X.outer

def Vis (sc : Scope) (x : Str) : Prop := sc.names.lookup x = some .local ∨ sc.names.lookup x = some .cell ∨ sc.names.lookup x = some .free
def Loc (sc : Scope) (x : Str) : Prop := sc.names.lookup x = some .local ∨ sc.names.lookup x = some .cell
def Look (env : Env) (h : Heap) (m : Str → Option Value) (x : Str) (u : Value) : Prop :=
  (env.kindOf x = some .local ∧ m x = some u) ∨ ((env.kindOf x = some .cell ∨ env.kindOf x = some .free) ∧ ∃ c, env.cells.lookup x = some c ∧ h.IsCell c (some u))

structure Cx.Ok (X : Cx) : Prop where
  mod : Mod X.K X.mg X.base
  kind : X.env.scope.kind = .function
  glob : X.env.globals = mainGlobals
  blt : X.env.builtins = builtinsNs
  above : X.s₀.heap.objs.size ≤ X.env.locals
  inj : ∀ x y c, X.env.cells.lookup x = some c → X.env.cells.lookup y = some c → x = y
  has : ∀ x, (X.env.kindOf x = some .cell ∨ X.env.kindOf x = some .free) → ∃ c, X.env.cells.lookup x = some c
  cab : ∀ x c, X.fn x = true → X.env.cells.lookup x = some c → X.s₀.heap.objs.size ≤ c
  hd : X.calm = true → X.A.handled = none
  frames : X.A.frames = some X.stack
  stk : X.stack = X.outer ∨ (X.stack = X.env :: X.outer ∧ X.env.frame = some X.env.locals)
  exf : ∀ b ∈ X.ex, b ≠ X.env.locals ∧ ∀ x c, X.env.cells.lookup x = some c → c ≠ b
  bs : ∀ b o, X.base.get? b = some o → X.s₀.heap.get? b = some o ∧ X.H₀ b = none
  bsz : X.base.objs.size ≤ X.s₀.heap.objs.size
  noex : ∀ b o, X.base.get? b = some o → b ∉ X.ex
  exfs : ∀ b ∈ X.ex, b ∉ X.fs
  funs : X.s₀.heap.FunFrames X.base X.outer
  frf : ∀ b ∈ X.fs, X.H₀ b = none

structure Inv (X : Cx) (pins : List (Addr × Obj)) (σ : List (Option V)) (H : Hp) (s : Shared) : Prop where
  ok : X.Ok
  os : s.os = X.s₀.os
  bare : AllBare s.gens
  base : Un X.fs X.ex X.H₀ H X.s₀.heap s.heap
  loc : ∃ m, s.heap.Ns X.env.locals m ∧ ∀ (i : Nat) (x : Str) (v : V), X.N[i]? = some x → σ[i]? = some (some v) → Vis X.env.scope x → ∃ u, RelV v u ∧ Look X.env s.heap m x u
  cell : ∀ x c, X.env.cells.lookup x = some c → ∃ v, s.heap.IsCell c v
  free : H X.env.locals = none
  freeC : ∀ x c, X.env.cells.lookup x = some c → H c = none
  pin : ∀ p ∈ X.pn ++ pins, s.heap.get? p.1 = some p.2 ∧ H p.1 = none ∧ p.1 ≠ X.env.locals ∧ p.1 ∉ X.fs ∧ ∀ v, p.2.data ≠ .cell v
  hok : HOk X.prog X.w H s.heap
  len : σ.length = X.N.length

section
variable {X : Cx} {pins : List (Addr × Obj)} {σ : List (Option V)} {H H' : Hp} {s : Shared} {h' : Heap}

theorem Cx.Ok.nofr (ok : X.Ok) {b : Addr} {o : Obj} (e : X.base.get? b = some o) : b ∉ X.fs := fun hb => by
  have := (ok.funs.mem hb).1
  rw [e] at this; cases this
theorem Inv.bs (I : Inv X pins σ H s) : ∀ b o, X.base.get? b = some o → s.heap.get? b = some o ∧ H b = none := fun b o e =>
  ⟨I.base.keep b o (I.ok.bs b o e).1 (I.ok.bs b o e).2 (I.ok.nofr e) (I.ok.noex b o e), I.base.free b o (I.ok.bs b o e).1 (I.ok.bs b o e).2 (I.ok.noex b o e)⟩
theorem Inv.bk (I : Inv X pins σ H s) : ∀ b o, X.base.get? b = some o → s.heap.get? b = some o := fun b o e => (I.bs b o e).1
theorem Inv.mod (I : Inv X pins σ H s) : Mod X.K X.mg X.base := I.ok.mod
theorem Inv.kIn (I : Inv X pins σ H s) : X.K.In s.heap := I.ok.mod.kin.keeps I.bk
theorem Inv.lt (I : Inv X pins σ H s) : X.env.locals < s.heap.objs.size := let ⟨_, hn, _⟩ := I.loc; hn.lt
theorem Inv.sz (I : Inv X pins σ H s) : X.s₀.heap.objs.size ≤ s.heap.objs.size := Nat.le_trans I.ok.above (Nat.le_of_lt I.lt)
theorem Inv.nofs (I : Inv X pins σ H s) {a : Addr} (h : s.heap.objs.size ≤ a) : a ∉ X.fs := fun hb => by
  obtain ⟨_, o, ho, _⟩ := I.ok.funs.mem hb
  exact absurd (Nat.lt_of_lt_of_le (Heap.lt_size ho) (Nat.le_trans I.sz h)) (Nat.lt_irrefl _)
theorem Inv.cne (I : Inv X pins σ H s) : ∀ x c, X.env.cells.lookup x = some c → c ≠ X.env.locals := fun x c e z => by
  obtain ⟨v, o, ho, hd⟩ := I.cell x c e
  obtain ⟨m, ⟨o', es, ep, ho', hd', _⟩, _⟩ := I.loc
  rw [z, ho'] at ho; cases ho; rw [hd'] at hd; cases hd
theorem Inv.funs (I : Inv X pins σ H s) : s.heap.FunFrames X.base X.outer := by
  have all : ∀ (l : List Env), (∀ b ∈ frs l, b ∈ X.fs) → X.s₀.heap.FunFrames X.base l → s.heap.FunFrames X.base l := by
    intro l
    induction l with
    | nil => intro _ _; trivial
    | cons env r ih =>
      intro hs hl
      obtain ⟨hk, ⟨L, o, hf, hn, ho, hd⟩, hr⟩ := hl
      have hL : L ∈ X.fs := hs L (by unfold frs; rw [List.filterMap_cons, hf]; exact List.mem_cons_self)
      obtain ⟨sl, e⟩ := I.base.slot L o ho (I.ok.frf L hL) hL fun z => I.ok.exfs L z hL
      exact ⟨hk, ⟨L, _, hf, hn, e, hd⟩, ih (fun b hb => hs b (by unfold frs; rw [List.filterMap_cons, hf]; exact List.mem_cons_of_mem _ hb)) hr⟩
  exact all X.outer (fun _ hb => hb) I.ok.funs

/-- the frames that run, for a call -/
theorem Inv.stack (I : Inv X pins σ H s) : s.heap.FunFrames X.base X.stack := by
  rcases I.ok.stk with e | ⟨e, hf⟩
  · rw [e]; exact I.funs
  · rw [e]
    obtain ⟨m, hn, _⟩ := I.loc
    refine .cons (by rw [I.ok.kind]; decide) hf hn ?_ I.funs
    exact Heap.get?_none_of_le (Nat.le_trans I.ok.bsz I.ok.above)
theorem Inv.stkSub (I : Inv X pins σ H s) : ∀ b ∈ frs X.stack, b ∈ X.env.locals :: X.fs := fun b hb => by
  rcases I.ok.stk with e | ⟨e, hf⟩
  · rw [e] at hb; exact List.mem_cons_of_mem _ hb
  · rw [e] at hb
    unfold frs at hb
    rw [List.filterMap_cons, hf] at hb
    exact hb
theorem Inv.stkFree (I : Inv X pins σ H s) : ∀ b ∈ frs X.stack, H b = none := fun b hb => by
  rcases List.mem_cons.mp (I.stkSub b hb) with e | hb
  · rw [e]; exact I.free
  · obtain ⟨_, o, ho, _⟩ := I.ok.funs.mem hb
    exact I.base.free b o ho (I.ok.frf b hb) fun z => I.ok.exfs b z hb

/-- THE STEP: the untracked objects but the frame and the records at ch are kept (the callers' frames up to slots), the frame's map is kept, the new abstract heap is held -/
theorem Inv.step {g' : Array GenState} {t' : Nat} {d' : Drawn} {ch : List Addr} (I : Inv X pins σ H s)
    (hch : ∀ b ∈ ch, (b ∈ X.ex ∨ X.s₀.heap.objs.size ≤ b) ∧ b ≠ X.env.locals ∧ (∀ x c, X.env.cells.lookup x = some c → c ≠ b) ∧ ∀ p ∈ X.pn ++ pins, p.1 ≠ b)
    (keep : ∀ b o, b ≠ X.env.locals → b ∉ X.fs → b ∉ ch → s.heap.get? b = some o → H b = none → h'.get? b = some o)
    (slot : ∀ b o, b ≠ X.env.locals → b ∈ X.fs → b ∉ ch → s.heap.get? b = some o → H b = none → ∃ sl, h'.get? b = some { o with slots := sl }) (free : ∀ b o, b ∉ ch → s.heap.get? b = some o → H b = none → H' b = none)
    (there : ∀ b o, b ∉ ch → s.heap.get? b = some o → ∃ o', h'.get? b = some o')
    (tups : ∀ b xs, H b = some (.tup xs) → H' b = some (.tup xs)) (frzs : ∀ b o u, H b = some (.frz o u) → H' b = some (.frz o u)) (tbls : ∀ b ps, H b = some (.tbl ps) → ∃ more, H' b = some (.tbl (ps ++ more)))
    (ns : ∀ m, s.heap.Ns X.env.locals m → h'.Ns X.env.locals m) (hok : HOk X.prog X.w H' h') (hg : AllBare g') :
    Inv X pins σ H' { s with heap := h', gens := g', drawn := d', toks := t' } := by
  have neL : ∀ b o, X.s₀.heap.get? b = some o → b ≠ X.env.locals := fun b o e => Nat.ne_of_lt (Nat.lt_of_lt_of_le (Heap.lt_size e) I.ok.above)
  have neC : ∀ b o, X.s₀.heap.get? b = some o → b ∉ X.ex → b ∉ ch := fun b o e hx hb => by
    rcases (hch b hb).1 with z | z
    · exact hx z
    · exact absurd (Nat.lt_of_lt_of_le (Heap.lt_size e) z) (Nat.lt_irrefl _)
  have cellK : ∀ x c, X.env.cells.lookup x = some c → ∀ v, s.heap.IsCell c v → h'.IsCell c v := fun x c e v ⟨o, ho, hd⟩ => by
    have nch : c ∉ ch := fun z => (hch c z).2.2.1 x c e rfl
    by_cases hc : c ∈ X.fs
    · obtain ⟨sl, q⟩ := slot c o (I.cne x c e) hc nch ho (I.freeC x c e)
      exact ⟨_, q, hd⟩
    · exact ⟨o, keep c o (I.cne x c e) hc nch ho (I.freeC x c e), hd⟩
  refine ⟨I.ok, I.os, hg, ⟨fun b o e n hb hx => ?_, fun b o e n hb hx => ?_, fun b o e n hx => ?_, fun b o e hx => ?_, fun b xs e => tups b xs (I.base.tups b xs e), fun b o xs e => frzs b o xs (I.base.frzs b o xs e), fun b ps e => ?_⟩, ?_, fun x c e => ?_, ?_, fun x c e => ?_, fun p hp => ?_, hok, I.len⟩
  · exact keep b o (neL b o e) hb (neC b o e hx) (I.base.keep b o e n hb hx) (I.base.free b o e n hx)
  · obtain ⟨sl, e1⟩ := I.base.slot b o e n hb hx
    obtain ⟨sl', e2⟩ := slot b _ (neL b o e) hb (neC b o e hx) e1 (I.base.free b o e n hx)
    exact ⟨sl', e2⟩
  · obtain ⟨o', e1⟩ := I.base.there b o e hx
    exact free b o' (neC b o e hx) e1 (I.base.free b o e n hx)
  · obtain ⟨o', e1⟩ := I.base.there b o e hx
    exact there b o' (neC b o e hx) e1
  · obtain ⟨m1, e1⟩ := I.base.tbls b ps e
    obtain ⟨m2, e2⟩ := tbls b _ e1
    exact ⟨m1 ++ m2, by rw [e2, Array.append_assoc]⟩
  · obtain ⟨m, hn, hl⟩ := I.loc
    refine ⟨m, ns m hn, fun i x v e1 e2 e3 => ?_⟩
    obtain ⟨u, r, l⟩ := hl i x v e1 e2 e3
    refine ⟨u, r, ?_⟩
    rcases l with l | ⟨k, c, e, z⟩
    · exact .inl l
    · exact .inr ⟨k, c, e, cellK x c e _ z⟩
  · obtain ⟨v, z⟩ := I.cell x c e
    exact ⟨v, cellK x c e v z⟩
  · obtain ⟨m, ⟨o, _, _, ho, _⟩, _⟩ := I.loc
    exact free _ o (fun z => (hch _ z).2.1 rfl) ho I.free
  · obtain ⟨v, o, ho, hd⟩ := I.cell x c e
    exact free c o (fun z => (hch c z).2.2.1 x c e rfl) ho (I.freeC x c e)
  · obtain ⟨e, n, ne, nf, d⟩ := I.pin p hp
    have nch : p.1 ∉ ch := fun z => (hch p.1 z).2.2.2 p hp rfl
    exact ⟨keep p.1 p.2 ne nf nch e n, free p.1 p.2 nch e n, ne, nf, d⟩
/-- .. where the frame's own object is kept too -/
theorem Inv.un {t' : Nat} (I : Inv X pins σ H s) (u : Un X.fs [] H H' s.heap h') (hok : HOk X.prog X.w H' h') : Inv X pins σ H' { s with heap := h', toks := t' } := by
  obtain ⟨m, ⟨o, es, ep, ho, r⟩, _⟩ := id I.loc
  obtain ⟨sl, hL⟩ := u.any ho I.free (by simp)
  exact I.step (g' := s.gens) (d' := s.drawn) (ch := []) (fun _ z => nomatch z) (fun b o _ hb _ e n => u.keep b o e n hb (by simp)) (fun b o _ hb _ e n => u.slot b o e n hb (by simp)) (fun b o _ e n => u.free b o e n (by simp)) (fun b o _ e => u.there b o e (by simp)) u.tups u.frzs u.tbls (fun m' hm => by
    obtain ⟨o', es', ep', ho', r'⟩ := hm
    rw [ho] at ho'; cases ho'
    exact ⟨_, es', ep', hL, r'⟩) hok I.bare
/-- behind a call (or a comprehension's block): the slots of this frame may have changed too, the records at ch may have turned -/
theorem Inv.call {g' : Array GenState} {t' : Nat} {d' : Drawn} {ch : List Addr} (I : Inv X pins σ H s) (u : Un (frs X.stack) ch H H' s.heap h') (hok : HOk X.prog X.w H' h') (hg : AllBare g')
    (hch : ∀ b ∈ ch, (b ∈ X.ex ∨ X.s₀.heap.objs.size ≤ b) ∧ b ≠ X.env.locals ∧ (∀ x c, X.env.cells.lookup x = some c → c ≠ b) ∧ ∀ p ∈ X.pn ++ pins, p.1 ≠ b) :
    Inv X pins σ H' { s with heap := h', gens := g', drawn := d', toks := t' } := by
  obtain ⟨m, ⟨o, es, ep, ho, r⟩, _⟩ := id I.loc
  obtain ⟨sl, hL⟩ := u.any ho I.free fun z => (hch _ z).2.1 rfl
  exact I.step (ch := ch) hch (fun b o hL hb hc e n => u.keep b o e n (fun z => (List.mem_cons.mp (I.stkSub b z)).elim hL hb) hc) (fun b o _ _ hc e n => u.any e n hc) (fun b o hc e n => u.free b o e n hc) (fun b o hc e => u.there b o e hc) u.tups u.frzs u.tbls (fun m' hm => by
    obtain ⟨o', es', ep', ho', r'⟩ := hm
    rw [ho] at ho'; cases ho'
    exact ⟨_, es', ep', hL, r'⟩) hok hg
/-- an untracked record of ours (an iterator) has turned -/
theorem Inv.turned {t' : Nat} {it : Addr} (I : Inv X pins σ H s) (k : ∀ b o, b ≠ it → s.heap.get? b = some o → h'.get? b = some o) (hn : H it = none) (hL : it ≠ X.env.locals)
    (h1 : it ∈ X.ex ∨ X.s₀.heap.objs.size ≤ it) (h2 : ∀ x c, X.env.cells.lookup x = some c → c ≠ it) (h3 : ∀ p ∈ X.pn ++ pins, p.1 ≠ it) : Inv X pins σ H { s with heap := h', toks := t' } := by
  have nit : ∀ b u, H b = some u → b ≠ it := fun b u e z => by rw [z, hn] at e; cases e
  refine I.step (g' := s.gens) (d' := s.drawn) (ch := [it]) (fun b hb => ?_) (fun b o _ _ hc e _ => k b o (fun z => hc (by simp [z])) e) (fun b o _ _ hc e _ => ⟨o.slots, k b o (fun z => hc (by simp [z])) e⟩) (fun _ _ _ _ n => n)
    (fun b o hc e => ⟨o, k b o (fun z => hc (by simp [z])) e⟩) (fun _ _ e => e) (fun _ _ _ e => e) (fun b ps e => ⟨#[], by rw [e]; simp⟩) (fun m hm => ?_) (fun b u e => ?_) I.bare
  · have e : b = it := by simpa using hb
    subst e
    exact ⟨h1, hL, h2, h3⟩
  · obtain ⟨o, es, ep, ho, r⟩ := hm
    exact ⟨o, es, ep, k _ o (Ne.symm hL) ho, r⟩
  · refine (I.hok b u e).stay (fun c v hc q => k c v ?_ q) (fun _ q => q) fun _ _ q => q
    rcases hc with z | z
    · rw [z]; exact nit b u e
    · exact nit c _ z
theorem Inv.tok (I : Inv X pins σ H s) (t : Nat) : Inv X pins σ H { s with toks := t } := I.un (h' := s.heap) (t' := t) Un.refl I.hok
/-- all objects kept -/
theorem Inv.kept {t' : Nat} (I : Inv X pins σ H s) (k : ∀ b u, s.heap.get? b = some u → h'.get? b = some u) : Inv X pins σ H { s with heap := h', toks := t' } := I.un (Un.kept k) (I.hok.kept k)
/-- a new object laid and tracked -/
theorem Inv.laid {a : Addr} {o : HO} {t' : Nat} (I : Inv X pins σ H s) (k : ∀ b u, s.heap.get? b = some u → h'.get? b = some u) (hp : s.heap.objs.size ≤ a) (new : ObjOk X.prog X.w (upd H a o) h' a o) :
    Inv X pins σ (upd H a o) { s with heap := h', toks := t' } := I.un (Un.laid k hp (I.hok.fresh hp)) (I.hok.laid k hp new)
/-- an object written -/
theorem Inv.write {x e : Addr} {o : HO} {t' : Nat} (I : Inv X pins σ H s) (mu : Mut (H x)) (he : e = x ∨ H e = some (.own x)) (k : ∀ b u, b ≠ e → s.heap.get? b = some u → h'.get? b = some u) (heo : ∃ u, h'.get? e = some u)
    (new : ObjOk X.prog X.w (upd H x o) h' x o) : Inv X pins σ (upd H x o) { s with heap := h', toks := t' } := I.un (Un.write mu he k heo) (I.hok.write mu he k heo new)
theorem Inv.pins_of {pins' : List (Addr × Obj)} (I : Inv X pins σ H s) (h : ∀ p ∈ pins', s.heap.get? p.1 = some p.2 ∧ H p.1 = none ∧ p.1 ≠ X.env.locals ∧ p.1 ∉ X.fs ∧ ∀ v, p.2.data ≠ .cell v) : Inv X pins' σ H s :=
  ⟨I.ok, I.os, I.bare, I.base, I.loc, I.cell, I.free, I.freeC, fun p hp => (List.mem_append.mp hp).elim (fun z => I.pin p (List.mem_append_left _ z)) (h p), I.hok, I.len⟩

theorem nodup_ix {N : List Str} (hN : N.Nodup) {i j : Nat} {x : Str} (a : N[i]? = some x) (b : N[j]? = some x) : i = j := by
  obtain ⟨h1, e1⟩ := List.getElem?_eq_some_iff.mp a
  obtain ⟨h2, e2⟩ := List.getElem?_eq_some_iff.mp b
  exact (List.getElem_inj hN).mp (e1.trans e2.symm)

/-- a name is stored; what changed -/
theorem store_ok2 {M : Model} {A : Around} {E : Value → Shared → Prop} {i : Nat} {x : Str} {v : V} {u : Value} {Q : Unit → Shared → Prop} (I : Inv X pins σ H s) (hN : X.N.Nodup) (hi : X.N[i]? = some x) (hx : Loc X.env.scope x) (r : RelV v u)
    (h : ∀ s', Inv X pins (σ.set i (some v)) H s' → (∃ a, Heap.SameBut a s.heap s'.heap ∧ (a = X.env.locals ∨ X.env.cells.lookup x = some a)) → Q () s') (hf : X.fn x = true ∨ X.env.scope.names.lookup x = some .local := by first | exact .inl rfl | exact .inr rfl | assumption) : wpAny M A (storeName X.env x u) Q E s := by
  obtain ⟨m, hn, hl⟩ := id I.loc
  have hcls : (X.env.scope.kind == .class || (X.env.scope.kind == .module && X.env.locals != X.env.globals)) = false := by rw [I.ok.kind]; rfl
  have hiσ : i < σ.length := by rw [I.len]; exact (List.getElem?_eq_some_iff.mp hi).1
  have cne := I.cne
  have tracked : ∀ {a : Addr} {h' : Heap}, (∃ o, s.heap.get? a = some o ∧ H a = none) → Heap.SameBut a s.heap h' → HOk X.prog X.w H h' := fun {a h'} ha hs b ob e => by
    obtain ⟨_, _, hfree⟩ := ha
    refine (I.hok b ob e).stay (fun c w' hc q => (hs.2 c ?_).trans q) (fun _ q => q) fun _ _ q => q
    rintro rfl
    rcases hc with rfl | hc
    · rw [hfree] at e; cases e
    · rw [hfree] at hc; cases hc
  rcases hx with hk | hk
  · refine wpAny_storeName_local hk hn (fun h' hn' hs => ?_) hcls
    obtain ⟨oL, _, _, hoL, _⟩ := id hn
    refine h _ ⟨I.ok, I.os, I.bare, ⟨fun b o e n hb hx => ?_, fun b o e n hb hx => ?_, I.base.free, fun b o e hx => ?_, I.base.tups, I.base.frzs, I.base.tbls⟩, ⟨_, hn', fun j y v' e1 e2 e3 => ?_⟩, fun y c e => ?_, I.free, I.freeC, fun p hp => ?_, tracked ⟨oL, hoL, I.free⟩ hs, by simpa using I.len⟩ ⟨_, hs, .inl rfl⟩
    · exact (hs.2 b (Nat.ne_of_lt (Nat.lt_of_lt_of_le (Heap.lt_size e) I.ok.above))).trans (I.base.keep b o e n hb hx)
    · obtain ⟨sl, e1⟩ := I.base.slot b o e n hb hx
      exact ⟨sl, (hs.2 b (Nat.ne_of_lt (Nat.lt_of_lt_of_le (Heap.lt_size e) I.ok.above))).trans e1⟩
    · obtain ⟨o', e1⟩ := I.base.there b o e hx
      exact ⟨o', (hs.2 b (Nat.ne_of_lt (Nat.lt_of_lt_of_le (Heap.lt_size e) I.ok.above))).trans e1⟩
    · by_cases hj : j = i
      · subst hj
        rw [hi] at e1; cases e1
        rw [List.getElem?_set_self hiσ] at e2
        cases e2
        exact ⟨u, r, .inl ⟨hk, by simp⟩⟩
      · rw [List.getElem?_set_ne (Ne.symm hj)] at e2
        obtain ⟨u', r', q⟩ := hl j y v' e1 e2 e3
        refine ⟨u', r', ?_⟩
        rcases q with ⟨k, e⟩ | ⟨k, c, e, z⟩
        · refine .inl ⟨k, ?_⟩
          have : y ≠ x := fun e => hj (nodup_ix hN e1 (e ▸ hi))
          simp [this, e]
        · exact .inr ⟨k, c, e, z.sameBut hs (cne y c e)⟩
    · obtain ⟨w', z⟩ := I.cell y c e
      exact ⟨w', z.sameBut hs (cne y c e)⟩
    · obtain ⟨e, n, ne, nf, d⟩ := I.pin p hp
      exact ⟨(hs.2 p.1 ne).trans e, n, ne, nf, d⟩
  · have hfn : X.fn x = true := by
      rcases hf with z | z
      · exact z
      · rw [z] at hk; cases hk
    obtain ⟨c, hc⟩ := I.ok.has x (.inl hk)
    obtain ⟨w', z⟩ := I.cell x c hc
    refine wpAny_storeName_cell I.ok.kind hk hc z (fun h' hc' hs => ?_)
    obtain ⟨oc, hoc, hocd⟩ := id z
    refine h { s with heap := h' } ⟨I.ok, I.os, I.bare, ⟨fun b o e n hb hx => ?_, fun b o e n hb hx => ?_, I.base.free, fun b o e hx => ?_, I.base.tups, I.base.frzs, I.base.tbls⟩, ⟨m, hn.sameBut hs (Ne.symm (cne x c hc)), fun j y v' e1 e2 e3 => ?_⟩, fun y c' e => ?_, I.free, I.freeC, fun p hp => ?_, tracked ⟨oc, hoc, I.freeC x c hc⟩ hs, by simpa using I.len⟩ ⟨c, hs, .inr hc⟩
    · exact (hs.2 b (Nat.ne_of_lt (Nat.lt_of_lt_of_le (Heap.lt_size e) (I.ok.cab x c hfn hc)))).trans (I.base.keep b o e n hb hx)
    · obtain ⟨sl, e1⟩ := I.base.slot b o e n hb hx
      exact ⟨sl, (hs.2 b (Nat.ne_of_lt (Nat.lt_of_lt_of_le (Heap.lt_size e) (I.ok.cab x c hfn hc)))).trans e1⟩
    · obtain ⟨o', e1⟩ := I.base.there b o e hx
      exact ⟨o', (hs.2 b (Nat.ne_of_lt (Nat.lt_of_lt_of_le (Heap.lt_size e) (I.ok.cab x c hfn hc)))).trans e1⟩
    · by_cases hj : j = i
      · subst hj
        rw [hi] at e1; cases e1
        rw [List.getElem?_set_self hiσ] at e2
        cases e2
        exact ⟨u, r, .inr ⟨.inl hk, c, hc, hc'⟩⟩
      · rw [List.getElem?_set_ne (Ne.symm hj)] at e2
        obtain ⟨u', r', q⟩ := hl j y v' e1 e2 e3
        refine ⟨u', r', ?_⟩
        rcases q with q | ⟨k, c', e, z'⟩
        · exact .inl q
        · refine .inr ⟨k, c', e, z'.sameBut hs ?_⟩
          rintro rfl
          exact hj (nodup_ix hN e1 (I.ok.inj _ _ _ e hc ▸ hi))
    · by_cases hcc : c' = c
      · subst hcc; exact ⟨_, hc'⟩
      · obtain ⟨w2, z2⟩ := I.cell y c' e
        exact ⟨w2, z2.sameBut hs hcc⟩
    · obtain ⟨e, n, ne, nf, d⟩ := I.pin p hp
      refine ⟨(hs.2 p.1 ?_).trans e, n, ne, nf, d⟩
      intro q
      rw [q, hoc] at e
      have q' : oc = p.2 := Option.some.inj e
      exact d w' (by rw [← q']; exact hocd)
theorem store_ok {M : Model} {A : Around} {E : Value → Shared → Prop} {i : Nat} {x : Str} {v : V} {u : Value} {Q : Unit → Shared → Prop} (I : Inv X pins σ H s) (hN : X.N.Nodup) (hi : X.N[i]? = some x) (hx : Loc X.env.scope x) (r : RelV v u)
    (h : ∀ s', Inv X pins (σ.set i (some v)) H s' → Q () s') (hf : X.fn x = true ∨ X.env.scope.names.lookup x = some .local := by first | exact .inl rfl | exact .inr rfl | assumption) : wpAny M A (storeName X.env x u) Q E s :=
  store_ok2 I hN hi hx r (fun s' I' _ => h s' I') hf
/-- behind a call or a block, the state as it is -/
theorem Inv.call' {s' : Shared} {ch : List Addr} (I : Inv X pins σ H s) (ho : s'.os = s.os) (u : Un (frs X.stack) ch H H' s.heap s'.heap) (hok : HOk X.prog X.w H' s'.heap) (hg : AllBare s'.gens)
    (hch : ∀ b ∈ ch, (b ∈ X.ex ∨ X.s₀.heap.objs.size ≤ b) ∧ b ≠ X.env.locals ∧ (∀ x c, X.env.cells.lookup x = some c → c ≠ b) ∧ ∀ p ∈ X.pn ++ pins, p.1 ≠ b) : Inv X pins σ H' s' := by
  obtain ⟨h', g', d', t', o'⟩ := s'
  have e : o' = s.os := ho
  subst e
  exact I.call (g' := g') (t' := t') (d' := d') u hok hg hch
end

/-! ### the judgements -/
/-- an exception: its class, its own dict's address (where it has one), the abstract heap behind it -/
abbrev XK := Value → Option Addr → Hp → Prop
abbrev St := List (Option V)
abbrev VK := V → Hp → Prop
/-- an expression's reading; a test's; an argument list's -/
abbrev TE := St → Hp → VK → Prop
abbrev TT := St → Hp → (Bool → Hp → Prop) → Prop
abbrev TA := St → Hp → (List V → Hp → Prop) → Prop
/-- what is wanted behind a statement -/
structure Ends where
  nx : St → Hp → Prop
  rt : VK
  bk : St → Hp → Prop := fun _ _ => False
  ct : St → Hp → Prop := fun _ _ => False
abbrev TS := Ends → St → Hp → Prop

def EP (X : Cx) (pins : List (Addr × Obj)) (σ : St) (Q : VK) (u : Value) (s' : Shared) : Prop := ∃ v H', Inv X pins σ H' s' ∧ RelV v u ∧ Q v H'
def TP (X : Cx) (pins : List (Addr × Obj)) (σ : St) (Q : Bool → Hp → Prop) (b : Bool) (s' : Shared) : Prop := ∃ H', Inv X pins σ H' s' ∧ Q b H'
def AP (X : Cx) (pins : List (Addr × Obj)) (σ : St) (Q : List V → Hp → Prop) (us : List Value) (s' : Shared) : Prop := ∃ vs H', Inv X pins σ H' s' ∧ Vals vs us ∧ Q vs H'
def SP (X : Cx) (pins : List (Addr × Obj)) (D : Ends) (f : Flow) (s' : Shared) : Prop :=
  match f with
  | .next => ∃ σ' H', Inv X pins σ' H' s' ∧ D.nx σ' H'
  | .brk => ∃ σ' H', Inv X pins σ' H' s' ∧ D.bk σ' H'
  | .cont => ∃ σ' H', Inv X pins σ' H' s' ∧ D.ct σ' H'
  | .ret u => ∃ v σ' H', Inv X pins σ' H' s' ∧ RelV v u ∧ D.rt v H'

def PE (X : Cx) (e : Expr) (t : TE) : Prop :=
  ∀ (pins : List (Addr × Obj)) (s : Shared) (σ : St) (H : Hp) (Q : VK), Inv X pins σ H s → t σ H Q → wpAny (model X.prog X.w) X.A (eval e X.env) (EP X pins σ Q) X.xe s
def PT (X : Cx) (e : Expr) (t : TT) : Prop :=
  ∀ (pins : List (Addr × Obj)) (s : Shared) (σ : St) (H : Hp) (Q : Bool → Hp → Prop), Inv X pins σ H s → t σ H Q → wpAny (model X.prog X.w) X.A (isTrue e X.env (eval e X.env)) (TP X pins σ Q) X.xe s
/-- a test whatever its 'whole' is (and, or) -/
def PW (X : Cx) (e : Expr) (t : TT) : Prop :=
  ∀ (whole : Sem Value) (pins : List (Addr × Obj)) (s : Shared) (σ : St) (H : Hp) (Q : Bool → Hp → Prop), Inv X pins σ H s → t σ H Q → wpAny (model X.prog X.w) X.A (isTrue e X.env whole) (TP X pins σ Q) X.xe s
theorem PW.pt {X : Cx} {e : Expr} {t : TT} (h : PW X e t) : PT X e t := h _
/-- an argument list (no star), from the left -/
def PA (X : Cx) (es : List Expr) (t : TA) : Prop :=
  ∀ (pos : Pos) (pins : List (Addr × Obj)) (s : Shared) (σ : St) (H : Hp) (Q : List V → Hp → Prop), Inv X pins σ H s → t σ H Q → wpAny (model X.prog X.w) X.A (spliced (backTo pos (starEach es X.env))) (AP X pins σ Q) X.xe s
def PS (X : Cx) (st : Stmt) (t : TS) : Prop :=
  ∀ (pins : List (Addr × Obj)) (s : Shared) (σ : St) (H : Hp) (D : Ends), Inv X pins σ H s → t D σ H → wpAny (model X.prog X.w) X.A (exec st X.env) (SP X pins D) X.xe s
def PSs (X : Cx) (st : List Stmt) (t : TS) : Prop :=
  ∀ (pins : List (Addr × Obj)) (s : Shared) (σ : St) (H : Hp) (D : Ends), Inv X pins σ H s → t D σ H → wpAny (model X.prog X.w) X.A (execs st X.env) (SP X pins D) X.xe s
/-- weaken the end -/
theorem thn {α : Type} {t : Sem α} {Q Q' : α → Shared → Prop} {M : Model} {A : Around} {E : Value → Shared → Prop} {s : Shared} (h : wpAny M A t Q E s) (hQ : ∀ a s, Q a s → Q' a s) : wpAny M A t Q' E s := wpAny_mono h hQ fun _ _ x => x
end L2

namespace L2
open PySem PySem.Spec PyProof.Rows
section
variable {X : Cx}

/-! ### names and constants -/
def tVar (i : Nat) : TE := fun σ H Q => ∃ v, σ[i]? = some (some v) ∧ Q v H
def tC (v : V) : TE := fun _ H Q => Q v H
theorem pe_var {i : Nat} {x : Str} {pos : Pos} (hN : X.N[i]? = some x) (hv : Vis X.env.scope x) (hd : (x == ("__debug__" : Str)) = false := by decide) (hcd : (x == ("__classdict__" : Str)) = false := by decide) : PE X (.Name x pos) (tVar i) := by
  intro pins s σ H Q I h
  obtain ⟨v, e, h⟩ := h
  obtain ⟨m, hn, hl⟩ := I.loc
  obtain ⟨u, r, l⟩ := hl i x v hN e hv
  have fin : EP X pins σ Q u s := ⟨v, H, I, r, h⟩
  rcases l with ⟨hk, hm⟩ | ⟨hk, c, hc, hcell⟩
  · exact wpAny_Name (wpAny_loadName_local I.ok.kind hk hn hm fin) hd
  · rcases hk with hk | hk
    · exact wpAny_Name (wpAny_loadName_cell I.ok.kind hk hc hcell fin) hd
    · exact wpAny_Name (wpAny_loadName_free I.ok.kind hk hc hcell fin hcd) hd
theorem pe_int {i j pos} : PE X (.Constant (.int i) j pos) (tC (.int i)) := fun _ _ _ H _ I h => wpAny_Constant_int ⟨.int i, H, I.tok _, ⟨_, rfl⟩, h⟩
theorem pe_bl {b j pos} : PE X (.Constant (.bool b) j pos) (tC (.bl b)) := fun _ _ _ H _ I h => Constant_bool ⟨.bl b, H, I, rfl, h⟩
theorem pe_str {x j pos} : PE X (.Constant (.str x) j pos) (tC (.str x)) := fun _ _ _ H _ I h => Calls.Constant_str ⟨.str x, H, I.tok _, ⟨_, rfl⟩, h⟩

/-- a global name of the def -/
def Gl (X : Cx) (x : Str) : Prop := X.env.kindOf x = some .globalImplicit
theorem ld_glob {E : Value → Shared → Prop} {pins : List (Addr × Obj)} {s : Shared} {σ : St} {H : Hp} {x : Str} {u : Value} {pos : Pos} {Q : Value → Shared → Prop} (I : Inv X pins σ H s) (hg : Gl X x) (hm : X.mg x = some u) (h : Q u s)
    (hd : (x == ("__debug__" : Str)) = false := by decide) : wpAny (model X.prog X.w) X.A (eval (.Name x pos) X.env) Q E s :=
  Calls.Name_function_global I.ok.kind hg (Calls.loadGlobal_global (by rw [I.ok.glob]; exact I.mod.glob.keeps I.bk) hm h) hd
theorem ld_blt {E : Value → Shared → Prop} {pins : List (Addr × Obj)} {s : Shared} {σ : St} {H : Hp} {x : Str} {u : Value} {pos : Pos} {Q : Value → Shared → Prop} (I : Inv X pins σ H s) (hg : Gl X x) (hm : X.mg x = none) (hv : bootBuiltins x = some u) (h : Q u s)
    (hn : x ≠ "__name__" := by decide) (hd : (x == ("__debug__" : Str)) = false := by decide) : wpAny (model X.prog X.w) X.A (eval (.Name x pos) X.env) Q E s := by
  obtain ⟨mb, h1, h2⟩ := I.mod.blt
  exact Calls.Name_function_global I.ok.kind hg (Calls.loadGlobal_builtin (by rw [I.ok.glob]; exact I.mod.glob.keeps I.bk) hm (by rw [I.ok.blt]; exact h1.keeps I.bk) ((h2 x hn).trans hv) h) hd
/-- a module's constant, a class, a function, as a value -/
theorem pe_glob {x : Str} {v : V} {u : Value} {pos : Pos} (hg : Gl X x) (hm : X.mg x = some u) (r : RelV v u) (hd : (x == ("__debug__" : Str)) = false := by decide) : PE X (.Name x pos) (tC v) :=
  fun _ _ _ H _ I h => ld_glob I hg hm ⟨v, H, I, r, h⟩ hd
/-! ### arithmetic -/
/-- two ints -/
def t2I (ta tb : TE) (k : Int → Int → Hp → Prop) : St → Hp → Prop := fun σ H => ta σ H fun x H1 => tb σ H1 fun y H2 => ∃ i j, x = .int i ∧ y = .int j ∧ k i j H2
def tAdd (ta tb : TE) : TE := fun σ H Q => t2I ta tb (fun i j H2 => Q (.int (i + j)) H2) σ H
def tSub (ta tb : TE) : TE := fun σ H Q => t2I ta tb (fun i j H2 => Q (.int (i - j)) H2) σ H
/-- the left factor below 2^64 -/
def tMul (ta tb : TE) : TE := fun σ H Q => t2I ta tb (fun i j H2 => (-(2 ^ 64) < i ∧ i < 2 ^ 64) ∧ Q (.int (i * j)) H2) σ H
variable {a b : Expr} {ta tb : TE} {pos : Pos}
/-! ### comparisons -/
def PC (X : Cx) (op : CmpOp) (a b : Expr) (t : TE) : Prop :=
  ∀ (pins : List (Addr × Obj)) (s : Shared) (σ : St) (H : Hp) (Q : VK), Inv X pins σ H s → t σ H Q →
    wpAny (model X.prog X.w) X.A (eval a X.env) (fun v s₁ => wpAny (model X.prog X.w) X.A (eval b X.env) (fun u s₂ => wpAny (model X.prog X.w) X.A (compareOp op v u) (EP X pins σ Q) X.xe s₂) X.xe s₁) X.xe s
def tCmp (p : Int → Int → Bool) (ta tb : TE) : TE := fun σ H Q => t2I ta tb (fun i j H2 => Q (.bl (p i j)) H2) σ H
abbrev tLt : TE → TE → TE := tCmp fun i j => decide (i < j)
abbrev tLe : TE → TE → TE := tCmp fun i j => decide (i ≤ j)
abbrev tGt : TE → TE → TE := tCmp fun i j => decide (j < i)
abbrev tGe : TE → TE → TE := tCmp fun i j => decide (j ≤ i)
abbrev tEqI : TE → TE → TE := tCmp fun i j => decide (i = j)
abbrev tNeI : TE → TE → TE := tCmp fun i j => !decide (i = j)
/-- is None -/
def tIsN (ta : TE) : TE := fun σ H Q => ta σ H fun x H1 => Q (.bl (decide (x = .non))) H1
def tNotN (ta : TE) : TE := fun σ H Q => ta σ H fun x H1 => Q (.bl (!decide (x = .non))) H1
/-- a comparison as a value, as a test -/
def tB (t : TE) : TT := fun σ H Q => t σ H fun x H1 => ∃ c, x = .bl c ∧ Q c H1
/-! ### and, or, not -/
variable {tA tB' : TT} {rest : List Expr}
def tAnd (t u : TT) : TT := fun σ H Q => t σ H fun c H1 => if c = true then u σ H1 Q else Q false H1
def tOr (t u : TT) : TT := fun σ H Q => t σ H fun c H1 => if c = true then Q true H1 else u σ H1 Q
def tNot (t : TT) : TT := fun σ H Q => t σ H fun c H1 => Q (!c) H1
theorem pw_and1 (ha : PT X a tA) : PW X (.BoolOp .And [a] pos) tA := by
  intro wh pins s σ H Q I h
  refine isTrue_and (thn (ha pins s σ H Q I h) fun c s1 e => ?_)
  cases c with
  | true => exact isTrue_and_nil e
  | false => exact e
theorem pw_or1 (ha : PT X a tA) : PW X (.BoolOp .Or [a] pos) tA := by
  intro wh pins s σ H Q I h
  refine isTrue_or (thn (ha pins s σ H Q I h) fun c s1 e => ?_)
  cases c with
  | false => exact isTrue_or_nil e
  | true => exact e
theorem pw_and (ha : PT X a tA) (hb : PW X (.BoolOp .And (b :: rest) pos) tB') : PW X (.BoolOp .And (a :: b :: rest) pos) (tAnd tA tB') := by
  intro wh pins s σ H Q I h
  refine isTrue_and (thn (ha pins s σ H _ I h) fun c s1 ⟨H1, I1, q1⟩ => ?_)
  cases c with
  | true => exact hb wh pins s1 σ H1 Q I1 q1
  | false => exact ⟨H1, I1, q1⟩
theorem pw_or (ha : PT X a tA) (hb : PW X (.BoolOp .Or (b :: rest) pos) tB') : PW X (.BoolOp .Or (a :: b :: rest) pos) (tOr tA tB') := by
  intro wh pins s σ H Q I h
  refine isTrue_or (thn (ha pins s σ H _ I h) fun c s1 ⟨H1, I1, q1⟩ => ?_)
  cases c with
  | true => exact ⟨H1, I1, q1⟩
  | false => exact hb wh pins s1 σ H1 Q I1 q1
/-- .. as values (bools) -/
def tAndV (ta tb : TE) : TE := fun σ H Q => ta σ H fun x H1 => ∃ c, x = .bl c ∧ if c = true then tb σ H1 Q else Q (.bl false) H1
def tOrV (ta tb : TE) : TE := fun σ H Q => ta σ H fun x H1 => ∃ c, x = .bl c ∧ if c = true then Q (.bl true) H1 else tb σ H1 Q
def tNotV (ta : TE) : TE := fun σ H Q => ta σ H fun x H1 => ∃ c, x = .bl c ∧ Q (.bl (!c)) H1
/-- a if t else b -/
def tIf (t : TT) (ta tb : TE) : TE := fun σ H Q => t σ H fun c H1 => if c = true then ta σ H1 Q else tb σ H1 Q
theorem pe_ifExp {c : Expr} (hc : PT X c tA) (ha : PE X a ta) (hb : PE X b tb) : PE X (.IfExp c a b pos) (tIf tA ta tb) := by
  intro pins s σ H Q I h
  refine wpAny_IfExp (thn (hc pins s σ H _ I h) fun d s1 ⟨H1, I1, q1⟩ => ?_)
  cases d with
  | true => exact ha pins s1 σ H1 Q I1 q1
  | false => exact hb pins s1 σ H1 Q I1 q1
end
end L2

namespace L2
open PySem PySem.Spec PyProof.Rows

/-! ### a list, a tuple that is read: tracked, frozen, or an object of the module -/
def SqL (K : PySem.W.Frag) (H : Hp) (a : Addr) (xs : List V) : Prop :=
  Rd H a (.lst xs) ∨
    ∃ (o : Obj) (its : Array Value) (n : Nat), K.lookup a = some o ∧ o.cls = .type "list" ∧ o.dict = none ∧ o.data = .seq its n ∧ its.size ≤ sizeLine ∧ Vals xs its.toList
def SqT (K : PySem.W.Frag) (H : Hp) (a : Addr) (xs : List V) : Prop :=
  Rd H a (.tup xs) ∨
    ∃ (o : Obj) (its : Array Value) (n : Nat), K.lookup a = some o ∧ o.cls = .type "tuple" ∧ o.data = .seq its n ∧ its.size ≤ sizeLine ∧ Vals xs its.toList
def absV : Value → Option V
  | .none => some .non
  | .bool b => some (.bl b)
  | .int i _ => some (.int i)
  | .str x _ => some (.str x)
  | .bytes b _ => some (.byt b)
  | .float b _ => some (.flt b)
  | .ref a => some (.ref a)
  | .type n => some (.ty n)
  | _ => none
theorem RelV.abs {x : V} {u : Value} (r : RelV x u) : absV u = some x := by
  cases x with
  | non => cases r; rfl
  | bl _ => cases r; rfl
  | int _ => obtain ⟨t, rfl⟩ := r; rfl
  | str _ => obtain ⟨t, rfl⟩ := r; rfl
  | byt _ => obtain ⟨t, rfl⟩ := r; rfl
  | flt _ => obtain ⟨t, rfl⟩ := r; rfl
  | ref _ => cases r; rfl
  | ty _ => cases r; rfl
theorem RelV.inj {x y : V} {u : Value} (r : RelV x u) (q : RelV y u) : x = y := Option.some.inj (r.abs.symm.trans q.abs)
theorem Vals.inj : ∀ {xs ys : List V} {us : List Value}, Vals xs us → Vals ys us → xs = ys
  | _, _, _, .nil, .nil => rfl
  | _, _, _, .cons r t, .cons r' t' => by rw [r.inj r', Vals.inj t t']
section
variable {X : Cx} {pins : List (Addr × Obj)} {σ : St} {H : Hp} {s : Shared} {a : Addr} {xs ys : List V}
theorem SqL.of {K : PySem.W.Frag} (h : H a = some (.lst xs)) : SqL K H a xs := .inl (.inl h)
theorem SqT.of {K : PySem.W.Frag} (h : H a = some (.tup xs)) : SqT K H a xs := .inl (.inl h)
theorem Inv.list (I : Inv X pins σ H s) (h : SqL X.K H a xs) : ∃ its : List Value, Vals xs its ∧ PlainL s.heap a its.toArray ∧ xs.length ≤ sizeLine := by
  rcases h with h | ⟨o, its, n, hk, hc, hd, hs, hz, r⟩
  · obtain ⟨z, its, n, r, e⟩ := h.ok I.hok
    exact ⟨its, r, ⟨_, n, e, rfl, rfl, rfl⟩, z⟩
  · refine ⟨its.toList, r, ⟨o, n, I.kIn a o hk, hc, hd, by simpa using hs⟩, ?_⟩
    have e := r.length
    simp only [Array.length_toList] at e
    omega
theorem Inv.tuple (I : Inv X pins σ H s) (h : SqT X.K H a xs) : ∃ its : List Value, Vals xs its ∧ IsTup s.heap a its.toArray ∧ xs.length ≤ sizeLine := by
  rcases h with h | ⟨o, its, n, hk, hc, hs, hz, r⟩
  · obtain ⟨z, its, r, p⟩ := h.ok I.hok
    exact ⟨its, r, p, z⟩
  · refine ⟨its.toList, r, ⟨o, I.kIn a o hk, hc, n, by simpa using hs⟩, ?_⟩
    have e := r.length
    simp only [Array.length_toList] at e
    omega
theorem Inv.list_inj (I : Inv X pins σ H s) (h : SqL X.K H a xs) (h' : SqL X.K H a ys) : xs = ys := by
  obtain ⟨its, r, ⟨o, n, e, _, _, d⟩, _⟩ := I.list h
  obtain ⟨its', r', ⟨o', n', e', _, _, d'⟩, _⟩ := I.list h'
  rw [e] at e'; cases e'
  rw [d] at d'
  injection d' with d1 _
  have : its = its' := by simpa using congrArg Array.toList d1
  subst this
  exact r.inj r'
end

/-! ### another wish about exceptions -/
abbrev Cx.wish (X : Cx) (E : Value → Shared → Prop) : Cx := { X with xe := E }
/-- no exception leaves -/
abbrev Cx.nox (X : Cx) : Cx := X.wish fun _ _ => False
theorem Cx.Ok.wish {X : Cx} (ok : X.Ok) (E : Value → Shared → Prop) : (X.wish E).Ok :=
  ⟨ok.mod, ok.kind, ok.glob, ok.blt, ok.above, ok.inj, ok.has, ok.cab, ok.hd, ok.frames, ok.stk, ok.exf, ok.bs, ok.bsz, ok.noex, ok.exfs, ok.funs, ok.frf⟩
theorem Cx.Ok.unwish {X : Cx} {E : Value → Shared → Prop} (ok : (X.wish E).Ok) : X.Ok :=
  ⟨ok.mod, ok.kind, ok.glob, ok.blt, ok.above, ok.inj, ok.has, ok.cab, ok.hd, ok.frames, ok.stk, ok.exf, ok.bs, ok.bsz, ok.noex, ok.exfs, ok.funs, ok.frf⟩
section
variable {X : Cx} {pins : List (Addr × Obj)} {σ : St} {H : Hp} {s : Shared} {E : Value → Shared → Prop}
theorem Inv.wish (I : Inv X pins σ H s) (E : Value → Shared → Prop) : Inv (X.wish E) pins σ H s := ⟨I.ok.wish E, I.os, I.bare, I.base, I.loc, I.cell, I.free, I.freeC, I.pin, I.hok, I.len⟩
theorem Inv.unwish (I : Inv (X.wish E) pins σ H s) : Inv X pins σ H s := ⟨I.ok.unwish, I.os, I.bare, I.base, I.loc, I.cell, I.free, I.freeC, I.pin, I.hok, I.len⟩
theorem SP.unwish {D : Ends} {f : Flow} {s' : Shared} (h : SP (X.wish E) pins D f s') : SP X pins D f s' := by
  cases f with
  | next => obtain ⟨σ', H', I, q⟩ := h; exact ⟨σ', H', I.unwish, q⟩
  | brk => obtain ⟨σ', H', I, q⟩ := h; exact ⟨σ', H', I.unwish, q⟩
  | cont => obtain ⟨σ', H', I, q⟩ := h; exact ⟨σ', H', I.unwish, q⟩
  | ret u => obtain ⟨v, σ', H', I, r, q⟩ := h; exact ⟨v, σ', H', I.unwish, r, q⟩
theorem PSs.nox {st : List Stmt} {t : TS} (h : PSs X.nox st t) : PSs X st t := fun pins s σ H D I hw =>
  wpAny_mono (h pins s σ H D (I.wish _) hw) (fun _ _ q => q.unwish) fun _ _ z => False.elim z
end

/-! ### blocks and small statements -/
section
variable {X : Cx} {st : Stmt} {rest : List Stmt} {t u : TS} {e : Expr} {te : TE} {pos : Pos}
def tNext : TS := fun D σ H => D.nx σ H
def tSeq (t u : TS) : TS := fun D σ H => t { D with nx := u D } σ H
theorem pss_nil : PSs X [] tNext := fun _ _ σ H _ I h => wpAny_execs_nil ⟨σ, H, I, h⟩
theorem pss_cons (h1 : PS X st t) (h2 : PSs X rest u) : PSs X (st :: rest) (tSeq t u) := by
  intro pins s σ H D I h
  refine wpAny_execs_cons (thn (h1 pins s σ H { D with nx := u D } I h) fun f s1 q => ?_)
  cases f with
  | next =>
    obtain ⟨σ', H', I', q⟩ := q
    exact h2 pins s1 σ' H' D I' q
  | ret v => exact q
  | brk => exact q
  | cont => exact q
theorem pss_one (h1 : PS X st t) : PSs X [st] t := by
  intro pins s σ H D I h
  refine wpAny_execs_cons (thn (h1 pins s σ H D I h) fun f s1 q => ?_)
  cases f with
  | next => exact wpAny_execs_nil q
  | ret v => exact q
  | brk => exact q
  | cont => exact q
def tBreak : TS := fun D σ H => D.bk σ H
def tCont : TS := fun D σ H => D.ct σ H
/-- in a def's body nothing is shown -/
theorem Inv.quiet {pins : List (Addr × Obj)} {σ : St} {H : Hp} {s : Shared} (I : Inv X pins σ H s) : interactive X.env = false := by simp [interactive, I.ok.kind]
/-- an expression whose value is dropped -/
def tDrop (te : TE) : TS := fun D σ H => te σ H fun _ H1 => D.nx σ H1
theorem ps_expr (he : PE X e te) (hs : swapsWith e none pos.line X.env = pure false := by rfl) : PS X (.Expr e pos) (tDrop te) := by
  intro pins s σ H D I h
  exact wpAny_Expr_any (thn (he pins s σ H _ I h) fun v s1 ⟨x, H1, I1, r1, q1⟩ => ⟨σ, H1, I1, q1⟩) I.quiet hs
def tRet (te : TE) : TS := fun D σ H => te σ H D.rt
theorem ps_ret (he : PE X e te) : PS X (.Return (some e) pos) (tRet te) := by
  intro pins s σ H D I h
  exact wpAny_Return_some (thn (he pins s σ H _ I h) fun v s1 ⟨x, H1, I1, r1, q1⟩ => ⟨x, σ, H1, I1, r1, q1⟩)
def tRetN : TS := fun D _ H => D.rt .non H
def tIfS (c : TT) (t u : TS) : TS := fun D σ H => c σ H fun b H1 => if b = true then t D σ H1 else u D σ H1
theorem ps_if {c : Expr} {a b : List Stmt} {tc : TT} (hc : PT X c tc) (ha : PSs X a t) (hb : PSs X b u) : PS X (.If c a b pos) (tIfS tc t u) := by
  intro pins s σ H D I h
  refine wpAny_If (thn (hc pins s σ H _ I h) fun d s1 ⟨H1, I1, q1⟩ => ?_)
  cases d with
  | true => exact ha pins s1 σ H1 D I1 q1
  | false => exact hb pins s1 σ H1 D I1 q1
/-- code that the proof never comes to -/
def tNever : TS := fun _ _ _ => False
end

/-! ### targets -/
abbrev TG := V → St → Hp → (St → Hp → Prop) → Prop
abbrev TGs := List V → St → Hp → (St → Hp → Prop) → Prop
def PG (X : Cx) (target : Expr) (t : TG) : Prop :=
  ∀ (pins : List (Addr × Obj)) (s : Shared) (σ : St) (H : Hp) (v : V) (u : Value) (Q : St → Hp → Prop), Inv X pins σ H s → RelV v u → t v σ H Q →
    wpAny (model X.prog X.w) X.A (assign target X.env u) (fun _ s' => ∃ σ' H', Inv X pins σ' H' s' ∧ Q σ' H') X.xe s
/-- several targets, one after another -/
def PGs (X : Cx) (ts : List Expr) (t : TGs) : Prop :=
  ∀ (pins : List (Addr × Obj)) (s : Shared) (σ : St) (H : Hp) (vs : List V) (us : List Value) (Q : St → Hp → Prop), Inv X pins σ H s → Vals vs us → t vs σ H Q →
    wpAny (model X.prog X.w) X.A (assignInOrder ((assignEach ts X.env).map (·.2)) us) (fun _ s' => ∃ σ' H', Inv X pins σ' H' s' ∧ Q σ' H') X.xe s
/-- o[i] = v, by values -/
abbrev TSet := V → V → V → Hp → (Hp → Prop) → Prop
def PSet (X : Cx) (t : TSet) : Prop :=
  ∀ (pins : List (Addr × Obj)) (s : Shared) (σ : St) (H : Hp) (o i v : V) (ov iv u : Value) (Q : Hp → Prop), Inv X pins σ H s → RelV o ov → RelV i iv → RelV v u → t o i v H Q →
    wpAny (model X.prog X.w) X.A (setItem ov iv u) (fun _ s' => ∃ H', Inv X pins σ H' s' ∧ Q H') X.xe s
/-- a op= b, by values -/
abbrev TIp := V → V → Hp → VK → Prop
def PIp (X : Cx) (op : Operator) (t : TIp) : Prop :=
  ∀ (pins : List (Addr × Obj)) (s : Shared) (σ : St) (H : Hp) (x y : V) (v u : Value) (Q : VK), Inv X pins σ H s → RelV x v → RelV y u → t x y H Q →
    wpAny (model X.prog X.w) X.A (inplaceOp op v u) (EP X pins σ Q) X.xe s
section
variable {X : Cx} {pos : Pos}
def gName (i : Nat) : TG := fun v σ H Q => Q (σ.set i (some v)) H
theorem pg_name {i : Nat} {x : Str} (hN : X.N.Nodup) (hi : X.N[i]? = some x) (hx : Loc X.env.scope x) (hf : X.fn x = true ∨ X.env.scope.names.lookup x = some .local := by first | exact .inl rfl | exact .inr rfl | assumption) : PG X (.Name x pos) (gName i) := by
  intro pins s σ H v u Q I r h
  exact wpAny_assign_Name (store_ok I hN hi hx r (fun s' I' => ⟨_, H, I', h⟩) hf)
def gNil : TGs := fun vs σ H Q => vs = [] ∧ Q σ H
def gCons (t : TG) (u : TGs) : TGs := fun vs σ H Q => ∃ v r, vs = v :: r ∧ t v σ H fun σ' H' => u r σ' H' Q
theorem pgs_nil : PGs X [] gNil := by
  intro pins s σ H vs us Q I r h
  obtain ⟨e, h⟩ := h
  subst e
  cases r
  exact assignInOrder_nil ⟨σ, H, I, h⟩
theorem pgs_cons {e : Expr} {es : List Expr} {t : TG} {u : TGs} (h1 : PG X e t) (h2 : PGs X es u)
    (hs : (assignEach (e :: es) X.env).map (·.2) = assign e X.env :: (assignEach es X.env).map (·.2) := by rfl) : PGs X (e :: es) (gCons t u) := by
  intro pins s σ H vs us Q I r h
  obtain ⟨v, vr, e1, h⟩ := h
  subst e1
  cases r with
  | cons r rr =>
    rw [hs]
    refine assignInOrder_cons (thn (h1 pins s σ H _ _ _ I r h) fun _ s1 ⟨σ1, H1, I1, q1⟩ => ?_)
    exact h2 pins s1 σ1 H1 _ _ Q I1 rr q1
/-- (a, b, ..) = a tuple of that length -/
def gTup (K : PySem.W.Frag) (n : Nat) (t : TGs) : TG := fun v σ H Q => ∃ a xs, v = .ref a ∧ SqT K H a xs ∧ xs.length = n ∧ t xs σ H Q
theorem pg_tup {es : List Expr} {k : Nat} {t : TGs} {n : Nat} (hc : X.calm = true) (h : PGs X es t)
    (hn : (assignEach es X.env).length = n := by rfl) (hst : (assignEach es X.env).findIdx? (·.1) = none := by rfl) : PG X (.Tuple es k pos) (gTup X.K n t) := by
  intro pins s σ H v u Q I r hw
  obtain ⟨a, xs, e1, hq, hl, hw⟩ := hw
  subst e1
  cases r
  obtain ⟨its, rv, ht, hz⟩ := I.tuple hq
  refine assign_Tuple_tuple (I.ok.hd hc) ht (by simp [hn, ← hl, rv.length]) hst fun h' hx => ?_
  have I1 : Inv X pins σ H { s with heap := h' } := I.kept (t' := s.toks) fun b o e => hx b o (Nat.ne_of_lt (Heap.lt_size e)) e
  exact h pins _ σ H xs _ Q I1 (by simpa using rv) hw
/-- o[i] = .. -/
def gSub (to ti : TE) (t : TSet) : TG := fun v σ H Q => to σ H fun o H1 => ti σ H1 fun i H2 => t o i v H2 fun H3 => Q σ H3
/-- target = value -/
def tAsg (te : TE) (g : TG) : TS := fun D σ H => te σ H fun x H1 => g x σ H1 D.nx
theorem ps_asg {tg e : Expr} {te : TE} {g : TG} (he : PE X e te) (hg : PG X tg g) (hs : swapsWithSole [tg] e pos.line X.env = pure false := by rfl) (hw : swappedStores [tg] e X.env = pure none := by rfl)
    (h1 : (assignEach [tg] X.env).map (·.2) = [assign tg X.env] := by rfl) : PS X (.Assign [tg] e pos) (tAsg te g) := by
  intro pins s σ H D I h
  refine wpAny_Assign_stores (thn (he pins s σ H _ I h) fun v s1 ⟨x, H1, I1, r1, q1⟩ => ?_) hs hw
  rw [h1]
  exact thn (hg pins s1 σ H1 x v _ I1 r1 q1) fun _ s2 q => q
/-- name = value -/
theorem ps_set {i : Nat} {x : Str} {e : Expr} {te : TE} {pos' : Pos} (hN : X.N.Nodup) (hi : X.N[i]? = some x) (hx : Loc X.env.scope x) (he : PE X e te) (hs : swapsWith e (some (.Name x pos')) pos.line X.env = pure false := by rfl) (hf : X.fn x = true ∨ X.env.scope.names.lookup x = some .local := by first | exact .inl rfl | exact .inr rfl | assumption) :
    PS X (.Assign [.Name x pos'] e pos) (tAsg te (gName i)) := by
  intro pins s σ H D I h
  refine wpAny_Assign_Name (thn (he pins s σ H _ I h) fun v s1 ⟨y, H1, I1, r1, q1⟩ => ?_) hs
  exact store_ok I1 hN hi hx r1 (fun s2 I2 => ⟨_, H1, I2, q1⟩) hf
/-- a, b = x, y with plain local names: stored from the right; the pair itself is not tracked (the opening rows as in PyProof/Rows/TupAssign.lean:23) -/
def tPar (i j : Nat) (ta : TA) : TS := fun D σ H => ta σ H fun vs H1 => ∃ v w, vs = [v, w] ∧ D.nx ((σ.set i (some v)).set j (some w)) H1
/-- name op= e -/
def tAug (i : Nat) (te : TE) (ti : TIp) : TS := fun D σ H => ∃ x, σ[i]? = some (some x) ∧ te σ H fun y H1 => ti x y H1 fun z H2 => D.nx (σ.set i (some z)) H2
/-- o[i] op= e -/
def tAugS (to ti te : TE) (tget : V → V → Hp → VK → Prop) (tip : TIp) (tset : TSet) : TS := fun D σ H => to σ H fun o H1 => ti σ H1 fun i H2 => tget o i H2 fun x H3 => te σ H3 fun y H4 => tip x y H4 fun z H5 => tset o i z H5 fun H6 => D.nx σ H6
/-- o[i], by values -/
def PGet (X : Cx) (t : V → V → Hp → VK → Prop) : Prop :=
  ∀ (pins : List (Addr × Obj)) (s : Shared) (σ : St) (H : Hp) (o i : V) (ov iv : Value) (Q : VK), Inv X pins σ H s → RelV o ov → RelV i iv → t o i H Q →
    wpAny (model X.prog X.w) X.A (getItem ov iv) (EP X pins σ Q) X.xe s
/-- ints -/
def ipI (f : Int → Int → Int) : TIp := fun x y H Q => ∃ i j, x = .int i ∧ y = .int j ∧ Q (.int (f i j)) H
end

/-! ### while -/
section
variable {X : Cx} {pos : Pos}
/-- the invariant W with its measure -/
def tWhile (c : TT) (tb : TS) : TS := fun D σ H => ∃ W : Nat → St → Hp → Prop, (∃ m, W m σ H) ∧ ∀ m σ H, W m σ H →
  c σ H fun b H1 => if b = true then ∃ N : St → Hp → Prop, (∀ σ' H', N σ' H' → ∃ m', m' < m ∧ W m' σ' H') ∧ tb { D with nx := N, ct := N, bk := D.nx } σ H1 else D.nx σ H1
end

/-! ### what a loop or a comprehension walks -/
/-- at turn i: it yields x (the heap may grow), or it stops -/
structure It where
  go : Nat → Hp → Prop
  yld : Nat → Hp → V → Hp → Prop
  stop : Nat → Hp → Prop
/-- the iterator's own objects may turn: they are not the frame's, not pinned, younger than the entry (or a comprehension's own) -/
def FpOk (X : Cx) (pins : List (Addr × Obj)) (H : Hp) (b : Addr) : Prop :=
  H b = none ∧ b ≠ X.env.locals ∧ b ∉ X.fs ∧ (b ∈ X.ex ∨ X.s₀.heap.objs.size ≤ b) ∧ (∀ x c, X.env.cells.lookup x = some c → c ≠ b) ∧ ∀ p ∈ X.pn ++ pins, p.1 ≠ b
theorem Inv.fpOk {X : Cx} {pins : List (Addr × Obj)} {σ : St} {H H' : Hp} {s : Shared} {b : Addr} (I : Inv X pins σ H s) (hb : s.heap.objs.size ≤ b) (hn : H' b = none) : FpOk X pins H' b := by
  refine ⟨hn, Nat.ne_of_gt (Nat.lt_of_lt_of_le I.lt hb), I.nofs hb, .inr (Nat.le_trans I.sz hb), fun x c e z => ?_, fun p hp z => ?_⟩
  · obtain ⟨v, q⟩ := I.cell x c e
    exact absurd (Nat.lt_of_lt_of_le q.lt (by rw [z]; exact hb)) (Nat.lt_irrefl _)
  · exact absurd (Nat.lt_of_lt_of_le (Heap.lt_size (I.pin p hp).1) (by rw [z]; exact hb)) (Nat.lt_irrefl _)
structure Turn (P : Program) (w : World) (K : PySem.W.Frag) (tg : Expr) (J : It) (fp : List Addr) (it : Addr) (tn : Nat → Heap → Prop) : Prop where
  mem : it ∈ fp
  obj : ∀ i h, tn i h → ∀ b ∈ fp, ∃ o, h.get? b = some o ∧ ∀ v, o.data ≠ .cell v
  keep : ∀ i h h', tn i h → (∀ b ∈ fp, ∀ o, h.get? b = some o → h'.get? b = some o) → tn i h'
  item : ∀ (X : Cx), X.prog = P → X.w = w → X.K = K → X.calm = true → ∀ (i : Nat) (pins : List (Addr × Obj)) (s : Shared) (σ : St) (H : Hp) (E : Value → Shared → Prop), Inv X pins σ H s → (∀ b ∈ fp, FpOk X pins H b) → tn i s.heap → J.go i H →
    wpAny (model P w) X.A (pyNext (.ref it)) (fun r s1 => ∃ u, r = some u ∧
      wpAny (model P w) X.A (letOwnedTupleGo tg (.ref it) u) (fun _ s2 => ∃ x H', Inv X pins σ H' s2 ∧ RelV x u ∧ J.yld i H x H' ∧ tn (i + 1) s2.heap ∧ ∀ b ∈ fp, H' b = none) E s1) E s
  done : ∀ (X : Cx), X.prog = P → X.w = w → X.K = K → X.calm = true → ∀ (i : Nat) (pins : List (Addr × Obj)) (s : Shared) (σ : St) (H : Hp) (E : Value → Shared → Prop), Inv X pins σ H s → (∀ b ∈ fp, FpOk X pins H b) → tn i s.heap → J.stop i H →
    wpAny (model P w) X.A (pyNext (.ref it)) (fun r s1 => r = none ∧ Inv X pins σ H s1) E s
  self : ∀ (A : Around) (i : Nat) (s : Shared) (Q : Value → Shared → Prop) (E : Value → Shared → Prop), tn i s.heap → Q (.ref it) s → wpAny (model P w) A (pyIter (.ref it)) Q E s
abbrev TI := St → Hp → (It → Hp → Prop) → Prop
/-- an iterator has come -/
def PIE (X : Cx) (pins : List (Addr × Obj)) (σ : St) (tg : Expr) (R : It → Hp → Prop) (itv : Value) (s2 : Shared) : Prop :=
  ∃ (it : Addr) (fp : List Addr) (tn : Nat → Heap → Prop) (J : It) (H' : Hp), itv = .ref it ∧ Inv X pins σ H' s2 ∧ Turn X.prog X.w X.K tg J fp it tn ∧ tn 0 s2.heap ∧ (∀ b ∈ fp, FpOk X pins H' b) ∧ R J H'
def PI (X : Cx) (tg iter : Expr) (wi : TI) : Prop :=
  ∀ (pins : List (Addr × Obj)) (s : Shared) (σ : St) (H : Hp) (R : It → Hp → Prop), Inv X pins σ H s → wi σ H R →
    wpAny (model X.prog X.w) X.A (eval iter X.env) (fun v s1 => wpAny (model X.prog X.w) X.A (pyIter v) (PIE X pins σ tg R) X.xe s1) X.xe s

/-- the step ahead of the store is nothing for an iterator that keeps no tuple -/
theorem go_of {M : Model} {A : Around} {E : Value → Shared → Prop} {s : Shared} {tg : Expr} {it : Addr} {u : Value} {o : Obj} {n : String} {vs : Array Value} {Q : Unit → Shared → Prop} (ho : s.heap.get? it = some o) (hc : o.cls = .type n) (hd : o.data = .fields vs)
    (hn : ["enumerate", "zip", "dict_itemiterator", "dict_reverseitemiterator", "odict_iterator", "itertools.zip_longest", "itertools.pairwise"].contains n = false) (hQ : Q () s) : wpAny M A (letOwnedTupleGo tg (.ref it) u) Q E s := by
  unfold letOwnedTupleGo
  cases tg <;> first
    | exact wpAny_pure hQ
    | (cases u <;> first
        | exact wpAny_pure hQ
        | (refine wpAny_bind (wpAny_load ho ?_)
           rw [hc, hd]
           show wpAny M A (if (["enumerate", "zip", "dict_itemiterator", "dict_reverseitemiterator", "odict_iterator", "itertools.zip_longest", "itertools.pairwise"].contains n && vs[0]? == some (rawInt _)) = true then _ else _) Q E s
           rw [if_neg (by intro h; rw [hn, Bool.false_and] at h; cases h)]
           exact wpAny_pure hQ))

/-- the list at a, as it stands at each turn (a loop may append to it) -/
def Itl (K : PySem.W.Frag) (a : Addr) : It :=
  ⟨fun i H => ∃ xs x, SqL K H a xs ∧ xs[i]? = some x, fun i H x H' => H' = H ∧ ∀ xs, SqL K H a xs → xs[i]? = some x, fun i H => ∃ xs, SqL K H a xs ∧ xs.length ≤ i⟩
def Itt (K : PySem.W.Frag) (a : Addr) : It :=
  ⟨fun i H => ∃ xs x, SqT K H a xs ∧ xs[i]? = some x, fun i H x H' => H' = H ∧ ∀ xs, SqT K H a xs → xs[i]? = some x, fun i H => ∃ xs, SqT K H a xs ∧ xs.length ≤ i⟩
/-- lo, lo + 1, .. (n of them) -/
def Itr (lo : Int) (n : Nat) : It := ⟨fun i _ => i < n, fun i H x H' => H' = H ∧ x = .int (lo + i), fun i _ => n ≤ i⟩
theorem turn_list {P : Program} {w : World} {K : PySem.W.Frag} {tg : Expr} (a it : Addr) : Turn P w K tg (Itl K a) [it] it (fun i h => h.IsListIter it a i) where
  mem := by simp
  obj := fun i h st b hb => by
    have e : b = it := by simpa using hb
    subst e
    obtain ⟨o, e, c, d⟩ := st
    exact ⟨o, e, fun v z => by rw [d] at z; cases z⟩
  keep := fun i h h' st k => st.at fun o e => k it (by simp) o e
  item := by
    intro X hP hw hK hc i pins s σ H E I hf st hg
    subst hP hw hK
    obtain ⟨xs, x, hq, hx⟩ := hg
    obtain ⟨its, rv, p, hz⟩ := I.list hq
    obtain ⟨u, hu, ru⟩ := rv.get hx
    obtain ⟨f0, f1, f2, f3, f4, f5⟩ := hf it (by simp)
    refine wpAny_pyNext_list_item st p.isList (x := u) (by simpa using hu) fun h' st' sb => ?_
    have I1 : Inv X pins σ H { s with heap := h' } := I.turned (t' := s.toks) (fun b o hb e => (sb.2 b hb).trans e) f0 f1 f3 f4 f5
    obtain ⟨o, e, c, d⟩ := id st'
    exact ⟨u, rfl, go_of (s := { s with heap := h' }) e c d (by decide) ⟨x, H, I1, ru, ⟨rfl, fun ys hy => by rw [I.list_inj hy hq]; exact hx⟩, st', fun b hb => (hf b hb).1⟩⟩
  done := by
    intro X hP hw hK hc i pins s σ H E I hf st hg
    subst hP hw hK
    obtain ⟨xs, hq, hx⟩ := hg
    obtain ⟨its, rv, p, hz⟩ := I.list hq
    obtain ⟨f0, f1, f2, f3, f4, f5⟩ := hf it (by simp)
    have hl := rv.length
    exact wpAny_pyNext_list_end (I.ok.hd hc) st p.isList (by simp; omega) fun h' eb => ⟨rfl, I.turned (t' := s.toks) (fun b o hb e => eb b o hb e) f0 f1 f3 f4 f5⟩
  self := fun _ _ _ _ _ st h => wpAny_pyIter_listiter st h
theorem turn_range {P : Program} {w : World} {K : PySem.W.Frag} {tg : Expr} (it : Addr) (lo : Int) (n : Nat) : Turn P w K tg (Itr lo n) [it] it (fun i h => IsRangeIter h it (lo + (i : Nat) * 1) ((n : Int) - (i : Nat)) 1) where
  mem := by simp
  obj := fun i h st b hb => by
    have e : b = it := by simpa using hb
    subst e
    exact ⟨_, st, fun v z => by
      have z' : Data.fields _ = Data.cell v := z
      cases z'⟩
  keep := fun i h h' st k => k it (by simp) _ st
  item := by
    intro X hP hw hK hc i pins s σ H E I hf st hg
    subst hP hw hK
    obtain ⟨f0, f1, f2, f3, f4, f5⟩ := hf it (by simp)
    have W := Walks.range (prog := X.prog) (w := X.w) (I.ok.hd hc) it lo 1 n
    refine W.item i s _ _ hg st fun v h' tk hv st' kk => ?_
    obtain ⟨t, rfl⟩ := hv
    have I1 : Inv X pins σ H { s with heap := h', toks := tk } := I.turned (fun b o hb e => kk b o (by simpa using hb) e) f0 f1 f3 f4 f5
    refine ⟨_, rfl, go_of (s := { s with heap := h', toks := tk }) (n := "range_iterator") st' rfl rfl (by decide) ⟨.int (lo + i), H, I1, ⟨t, ?_⟩, ⟨rfl, rfl⟩, st', fun b hb => (hf b hb).1⟩⟩
    rw [Int.mul_one]
  done := by
    intro X hP hw hK hc i pins s σ H E I hf st hg
    subst hP hw hK
    obtain ⟨f0, f1, f2, f3, f4, f5⟩ := hf it (by simp)
    exact wpAny_pyNext_range_end (I.ok.hd hc) st (by have : n ≤ i := hg; omega) fun h' eb => ⟨rfl, I.turned (t' := s.toks) (fun b o hb e => eb b o hb e) f0 f1 f3 f4 f5⟩
  self := fun _ _ _ _ _ st h => wpAny_pyIter_rangeiter st h
end L2

namespace L2
open PySem PySem.Spec PyProof.Rows
section
variable {X : Cx} {tg : Expr}
def iList (K : PySem.W.Frag) (tl : TE) : TI := fun σ H R => tl σ H fun x H1 => ∃ a, x = .ref a ∧ (∃ xs, SqL K H1 a xs) ∧ R (Itl K a) H1
def iTup (K : PySem.W.Frag) (tl : TE) : TI := fun σ H R => tl σ H fun x H1 => ∃ a, x = .ref a ∧ (∃ xs, SqT K H1 a xs) ∧ R (Itt K a) H1
theorem pi_list {l : Expr} {tl : TE} (hl : PE X l tl) : PI X tg l (iList X.K tl) := by
  intro pins s σ H R I h
  refine thn (hl pins s σ H _ I h) fun v s1 ⟨x, H1, I1, r1, q1⟩ => ?_
  obtain ⟨a, e, ⟨xs, hq⟩, q⟩ := q1
  subst e
  cases r1
  obtain ⟨its, rv, p, hz⟩ := I1.list hq
  refine wpAny_pyIter_list p.isList ?_
  refine ⟨s1.heap.objs.size, [s1.heap.objs.size], _, _, H1, rfl, I1.kept (t' := s1.toks) fun b o e => Heap.get?_push_of_some _ e, turn_list a _, ⟨_, Heap.get?_push_size _ rfl, rfl, rfl⟩, fun b hb => ?_, q⟩
  have e : b = s1.heap.objs.size := by simpa using hb
  subst e
  exact I1.fpOk (Nat.le_refl _) (I1.hok.fresh (Nat.le_refl _))
/-- a range object just made, walked -/
theorem range_it {pins : List (Addr × Obj)} {σ : St} {H : Hp} {s : Shared} {R : It → Hp → Prop} {E : Value → Shared → Prop} {lo hi : Int} {t u v : Tok} {tk : Nat} (I : Inv X pins σ H s) (h1 : -(2 ^ 62) ≤ lo) (h2 : lo < 2 ^ 62) (h3 : -(2 ^ 62) ≤ hi) (h4 : hi < 2 ^ 62)
    (q : R (Itr lo (hi - lo).toNat) H) : wpAny (model X.prog X.w) X.A (pyIter (.ref s.heap.objs.size)) (PIE X pins σ tg R) E { s with heap := s.heap.push { cls := .type "range", data := .fields #[.int lo t, .int hi u, .int 1 v] }, toks := tk } := by
  refine wpAny_pyIter_range (IsRange.new ..) (small_one h1 h2 h3 h4) ?_
  have I1 : Inv X pins σ H { s with heap := s.heap.push { cls := .type "range", data := .fields #[.int lo t, .int hi u, .int 1 v] }, toks := tk } := I.kept fun b o e => Heap.get?_push_of_some _ e
  refine ⟨(s.heap.push { cls := .type "range", data := .fields #[.int lo t, .int hi u, .int 1 v] }).objs.size, [(s.heap.push { cls := .type "range", data := .fields #[.int lo t, .int hi u, .int 1 v] }).objs.size], _, _, H, rfl,
    I1.kept (t' := tk) fun b o e => Heap.get?_push_of_some _ e, turn_range _ lo (hi - lo).toNat, ?_, fun b hb => ?_, q⟩
  · have e1 : lo + ((0 : Nat) : Int) * 1 = lo := by simp
    have e2 : (((hi - lo).toNat : Nat) : Int) - ((0 : Nat) : Int) = Builtin.Range.rangeSize lo hi 1 := by rw [rangeSize_one]; split <;> omega
    show IsRangeIter _ _ (lo + ((0 : Nat) : Int) * 1) ((((hi - lo).toNat : Nat) : Int) - ((0 : Nat) : Int)) 1
    rw [e1, e2]
    exact Heap.get?_push_size _ rfl
  · have e : b = (s.heap.push { cls := .type "range", data := .fields #[.int lo t, .int hi u, .int 1 v] }).objs.size := by simpa using hb
    subst e
    exact I1.fpOk (Nat.le_refl _) (I1.hok.fresh (Nat.le_refl _))
def iRng1 (ta : TA) : TI := fun σ H R => ta σ H fun vs H1 => ∃ j : Int, vs = [.int j] ∧ -(2 ^ 62) ≤ j ∧ j < 2 ^ 62 ∧ R (Itr 0 j.toNat) H1
def iRng2 (ta : TA) : TI := fun σ H R => ta σ H fun vs H1 => ∃ i j : Int, vs = [.int i, .int j] ∧ (-(2 ^ 62) ≤ i ∧ i < 2 ^ 62 ∧ -(2 ^ 62) ≤ j ∧ j < 2 ^ 62) ∧ R (Itr i (j - i).toNat) H1
theorem pi_range1 {a : Expr} {ta : TA} {p pos : Pos} (hg : Gl X "range") (hm : X.mg "range" = none) (ha : PA X [a] ta) (hs : starEach [a] X.env = [(false, eval a X.env)] := by rfl) : PI X tg (.Call (.Name "range" p) [a] [] pos) (iRng1 ta) := by
  intro pins s σ H R I h
  refine Call_ (ld_blt I hg hm boot_range (PyProof.Rows.callWith_type1 (thn (ha pos pins s σ H _ I h) fun us s1 ⟨vs, H1, I1, r1, q1⟩ => ?_) hs rfl))
  obtain ⟨j, e, q1, q2, q⟩ := q1
  subst e
  cases r1 with
  | cons r rr =>
    cases rr
    obtain ⟨t, rfl⟩ := r
    exact call_range_1 (range_it I1 (by omega) (by omega) q1 q2 (by simpa using q))
/-! ### for -/
/-- W: the invariant by the turn and a measure; N: what the body is to reach -/
def tFor (wi : TI) (g : TG) (tb : TS) : TS := fun D σ H => wi σ H fun J H1 => ∃ W : Nat → Nat → St → Hp → Prop, (∃ m, W 0 m σ H1) ∧ ∀ i m σ H, W i m σ H →
  (J.stop i H ∧ D.nx σ H) ∨ (J.go i H ∧ ∃ N : St → Hp → Prop, (∀ σ' H', N σ' H' → ∃ m', m' < m ∧ W (i + 1) m' σ' H') ∧ ∀ x H', J.yld i H x H' → g x σ H' fun σ2 H2 => tb { D with nx := N, ct := N, bk := D.nx } σ2 H2)
/-- the records at fp as they stand -/
def pinsAt (fp : List Addr) (h : Heap) : List (Addr × Obj) := fp.filterMap fun b => (h.get? b).map fun o => (b, o)
theorem mem_pinsAt {fp : List Addr} {h : Heap} {b : Addr} {o : Obj} (hb : b ∈ fp) (e : h.get? b = some o) : (b, o) ∈ pinsAt fp h := List.mem_filterMap.mpr ⟨b, hb, by rw [e]; rfl⟩
theorem of_pinsAt {fp : List Addr} {h : Heap} {p : Addr × Obj} (hp : p ∈ pinsAt fp h) : p.1 ∈ fp ∧ h.get? p.1 = some p.2 := by
  obtain ⟨b, hb, e⟩ := List.mem_filterMap.mp hp
  cases q : h.get? b with
  | none => rw [q] at e; cases e
  | some o =>
    rw [q] at e
    have e' : (b, o) = p := Option.some.inj e
    subst e'
    exact ⟨hb, q⟩
theorem Inv.pinned {pins : List (Addr × Obj)} {σ : St} {H : Hp} {s : Shared} {fp : List Addr} (I : Inv X pins σ H s) (hf : ∀ b ∈ fp, FpOk X pins H b) (ho : ∀ b ∈ fp, ∃ o, s.heap.get? b = some o ∧ ∀ v, o.data ≠ .cell v) : Inv X (pins ++ pinsAt fp s.heap) σ H s :=
  I.pins_of fun p hp => (List.mem_append.mp hp).elim (fun z => I.pin p (List.mem_append_right _ z)) fun z => by
    obtain ⟨hb, e⟩ := of_pinsAt z
    obtain ⟨f0, f1, f2, _⟩ := hf p.1 hb
    obtain ⟨o, e', d⟩ := ho p.1 hb
    rw [e] at e'; cases e'
    exact ⟨e, f0, f1, f2, d⟩
theorem Inv.unpinned {pins pl : List (Addr × Obj)} {σ : St} {H : Hp} {s : Shared} (I : Inv X (pins ++ pl) σ H s) : Inv X pins σ H s := I.pins_of fun p hp => I.pin p (List.mem_append_right _ (List.mem_append_left _ hp))
theorem ps_for {iter : Expr} {body : List Stmt} {wi : TI} {g : TG} {tb : TS} {pos : Pos} (hp : PassesOwn (model X.prog X.w) X.A X.env X.xe) (hc : X.calm = true) (hi : PI X tg iter wi) (hg : PG X tg g) (hb : PSs X body tb)
    (hs : ∀ x, foldedSetIterable iter X.env x = pure x := by intro _; rfl) : PS X (.For tg iter body [] pos) (tFor wi g tb) := by
  intro pins s σ H D I h
  refine wpAny_For (thn (hi pins s σ H _ I h) fun v s1 h1 => thn h1 fun itv s2 h2 => ?_) hs
  obtain ⟨it, fp, tn, J, H2, e, I2, T, st2, f2, W, ⟨m0, w0⟩, turn⟩ := h2
  subst e
  -- what stays true of the iterator's objects through the loop
  have stat : ∀ {H' : Hp}, (∀ b ∈ fp, H' b = none) → ∀ b ∈ fp, FpOk X pins H' b := fun hn b hb => ⟨hn b hb, (f2 b hb).2⟩
  refine codeAny_forLoop_any (fun n s' => ∃ i σ' H', Inv X pins σ' H' s' ∧ tn i s'.heap ∧ (∀ b ∈ fp, H' b = none) ∧ W i n σ' H') ?_ m0 ⟨0, σ, H2, I2, st2, fun b hb => (f2 b hb).1, w0⟩
  rintro n s3 ⟨i, σ3, H3, I3, st3, fr3, w3⟩
  rcases turn i n σ3 H3 w3 with ⟨stop, qn⟩ | ⟨go, N, hN, step⟩
  · refine wpAny_passesOwn hp (thn (T.done X rfl rfl rfl hc i pins s3 σ3 H3 X.xe I3 (stat fr3) st3 stop) fun r s4 ⟨hr, I4⟩ => ?_)
    subst hr
    exact wpAny_execs_nil ⟨σ3, H3, I4, qn⟩
  · refine wpAny_passesOwn hp (thn (T.item X rfl rfl rfl hc i pins s3 σ3 H3 X.xe I3 (stat fr3) st3 go) fun r s4 ⟨u, hr, h4⟩ => ?_)
    subst hr
    refine wpAny_passesOwn hp (thn h4 fun _ s5 ⟨x, H5, I5, r5, y5, st5, fr5⟩ => ?_)
    have I5' := I5.pinned (stat fr5) (T.obj _ _ st5)
    refine wpAny_passesOwn hp (thn (hg _ s5 σ3 H5 x u _ I5' r5 (step x H5 y5)) fun _ s6 ⟨σ6, H6, I6, q6⟩ => ?_)
    refine wpAny_passesOwn hp (thn (hb _ s6 σ6 H6 _ I6 q6) fun f s7 q7 => ?_)
    have again : ∀ {σ7 : St} {H7 : Hp}, Inv X (pins ++ pinsAt fp s5.heap) σ7 H7 s7 → N σ7 H7 → ∃ m, m < n ∧ ∃ i σ' H', Inv X pins σ' H' s7 ∧ tn i s7.heap ∧ (∀ b ∈ fp, H' b = none) ∧ W i m σ' H' := fun {σ7 H7} I7 n7 => by
      obtain ⟨m', hm, w7⟩ := hN σ7 H7 n7
      refine ⟨m', hm, i + 1, σ7, H7, I7.unpinned, T.keep _ _ _ st5 fun b hb o e => (I7.pin (b, o) (List.mem_append_right _ (List.mem_append_right _ (mem_pinsAt hb e)))).1, fun b hb => ?_, w7⟩
      obtain ⟨o, e, d⟩ := T.obj _ _ st5 b hb
      exact (I7.pin (b, o) (List.mem_append_right _ (List.mem_append_right _ (mem_pinsAt hb e)))).2.1
    cases f with
    | next => obtain ⟨σ7, H7, I7, n7⟩ := q7; exact again I7 n7
    | cont => obtain ⟨σ7, H7, I7, n7⟩ := q7; exact again I7 n7
    | brk => obtain ⟨σ7, H7, I7, q7⟩ := q7; exact ⟨σ7, H7, I7.unpinned, q7⟩
    | ret v => obtain ⟨x7, σ7, H7, I7, r7, q7⟩ := q7; exact ⟨x7, σ7, H7, I7.unpinned, r7, q7⟩
end

/-! ### the forms one uses -/
/-- over a list that the body leaves as it is -/
theorem for_list {K : PySem.W.Frag} {a : Addr} {xs : List V} {g : TG} {tb : TS} {D : Ends} {σ : St} {H : Hp} (Pv : Nat → St → Hp → Prop) (h0 : Pv 0 σ H) (hl : ∀ i σ H, i ≤ xs.length → Pv i σ H → SqL K H a xs)
    (hs : ∀ i x σ H, xs[i]? = some x → Pv i σ H → g x σ H fun σ2 H2 => tb { D with nx := Pv (i + 1), ct := Pv (i + 1), bk := D.nx } σ2 H2) (hd : ∀ σ H, Pv xs.length σ H → D.nx σ H) :
    ∃ W : Nat → Nat → St → Hp → Prop, (∃ m, W 0 m σ H) ∧ ∀ i m σ H, W i m σ H →
      ((Itl K a).stop i H ∧ D.nx σ H) ∨ ((Itl K a).go i H ∧ ∃ N : St → Hp → Prop, (∀ σ' H', N σ' H' → ∃ m', m' < m ∧ W (i + 1) m' σ' H') ∧ ∀ x H', (Itl K a).yld i H x H' → g x σ H' fun σ2 H2 => tb { D with nx := N, ct := N, bk := D.nx } σ2 H2) := by
  refine ⟨fun i m σ H => m = xs.length - i ∧ i ≤ xs.length ∧ Pv i σ H, ⟨xs.length, by simp, Nat.zero_le _, h0⟩, ?_⟩
  rintro i m σ H ⟨rfl, hi, p⟩
  have q := hl i σ H hi p
  by_cases hlt : i < xs.length
  · refine .inr ⟨⟨xs, xs[i], q, by simp [hlt]⟩, Pv (i + 1), fun σ' H' p' => ⟨xs.length - (i + 1), by omega, rfl, hlt, p'⟩, fun x H' y => ?_⟩
    obtain ⟨e, y⟩ := y
    subst e
    exact hs i x σ _ (y xs q) p
  · have e : i = xs.length := by omega
    subst e
    exact .inl ⟨⟨xs, q, Nat.le_refl _⟩, hd σ H p⟩
theorem for_range {lo : Int} {n : Nat} {g : TG} {tb : TS} {D : Ends} {σ : St} {H : Hp} (Pv : Nat → St → Hp → Prop) (h0 : Pv 0 σ H)
    (hs : ∀ i σ H, i < n → Pv i σ H → g (.int (lo + i)) σ H fun σ2 H2 => tb { D with nx := Pv (i + 1), ct := Pv (i + 1), bk := D.nx } σ2 H2) (hd : ∀ σ H, Pv n σ H → D.nx σ H) :
    ∃ W : Nat → Nat → St → Hp → Prop, (∃ m, W 0 m σ H) ∧ ∀ i m σ H, W i m σ H →
      ((Itr lo n).stop i H ∧ D.nx σ H) ∨ ((Itr lo n).go i H ∧ ∃ N : St → Hp → Prop, (∀ σ' H', N σ' H' → ∃ m', m' < m ∧ W (i + 1) m' σ' H') ∧ ∀ x H', (Itr lo n).yld i H x H' → g x σ H' fun σ2 H2 => tb { D with nx := N, ct := N, bk := D.nx } σ2 H2) := by
  refine ⟨fun i m σ H => m = n - i ∧ i ≤ n ∧ Pv i σ H, ⟨n, by simp, Nat.zero_le _, h0⟩, ?_⟩
  rintro i m σ H ⟨rfl, hi, p⟩
  by_cases hlt : i < n
  · refine .inr ⟨hlt, Pv (i + 1), fun σ' H' p' => ⟨n - (i + 1), by omega, rfl, hlt, p'⟩, fun x H' y => ?_⟩
    obtain ⟨e, y⟩ := y
    subst e y
    exact hs i σ _ hlt p
  · have e : i = n := by omega
    subst e
    exact .inl ⟨Nat.le_refl _, hd σ H p⟩
end L2

namespace L2
open PySem PySem.Spec PyProof.Rows

abbrev R2 := V → V → Hp → VK → Prop
/-- a two-place operation on values: f is binaryOp op, inplaceOp op or compareOp op -/
def OpR (X : Cx) (f : Value → Value → Sem Value) (r : R2) : Prop :=
  ∀ (pins : List (Addr × Obj)) (s : Shared) (σ : St) (H : Hp) (x y : V) (v u : Value) (Q : VK), Inv X pins σ H s → RelV x v → RelV y u → r x y H Q →
    wpAny (model X.prog X.w) X.A (f v u) (EP X pins σ Q) X.xe s
/-- a one-place operation -/
def UnR (X : Cx) (f : Value → Sem Value) (r : V → Hp → VK → Prop) : Prop :=
  ∀ (pins : List (Addr × Obj)) (s : Shared) (σ : St) (H : Hp) (x : V) (v : Value) (Q : VK), Inv X pins σ H s → RelV x v → r x H Q →
    wpAny (model X.prog X.w) X.A (f v) (EP X pins σ Q) X.xe s
/-- a call of a value that is known (a builtin, a type) with values -/
def CallR (X : Cx) (f : Value) (r : List V → Hp → VK → Prop) : Prop :=
  ∀ (pins : List (Addr × Obj)) (s : Shared) (σ : St) (H : Hp) (xs : List V) (us : List Value) (Q : VK), Inv X pins σ H s → Vals xs us → r xs H Q →
    wpAny (model X.prog X.w) X.A (call f us) (EP X pins σ Q) X.xe s
/-- a value's truth -/
def TruR (X : Cx) (r : V → Hp → (Bool → Hp → Prop) → Prop) : Prop :=
  ∀ (pins : List (Addr × Obj)) (s : Shared) (σ : St) (H : Hp) (x : V) (v : Value) (Q : Bool → Hp → Prop), Inv X pins σ H s → RelV x v → r x H Q →
    wpAny (model X.prog X.w) X.A (truthy v) (TP X pins σ Q) X.xe s

def tOp (r : R2) (ta tb : TE) : TE := fun σ H Q => ta σ H fun x H1 => tb σ H1 fun y H2 => r x y H2 Q
def tUn (r : V → Hp → VK → Prop) (ta : TE) : TE := fun σ H Q => ta σ H fun x H1 => r x H1 Q
/-- ints in, under C, and a value out -/
def rI (C : Int → Int → Prop) (g : Int → Int → V) : R2 := fun x y H Q => ∃ i j, x = .int i ∧ y = .int j ∧ C i j ∧ Q (g i j) H
def rI0 (g : Int → Int → V) : R2 := fun x y H Q => ∃ i j, x = .int i ∧ y = .int j ∧ Q (g i j) H
def rU (g : Int → V) : V → Hp → VK → Prop := fun x H Q => ∃ i, x = .int i ∧ Q (g i) H

section
variable {X : Cx} {a b c : Expr} {ta tb tc : TE} {pos : Pos}

theorem binT (ha : PE X a ta) (hb : PE X b tb) {pins : List (Addr × Obj)} {s : Shared} {σ : St} {H : Hp} {R : V → V → Hp → Prop} (I : Inv X pins σ H s)
    (h : ta σ H fun x H1 => tb σ H1 fun y H2 => R x y H2) {Q : Value → Shared → Prop} {f : Value → Value → Sem Value}
    (hf : ∀ v u s2 x y H2, Inv X pins σ H2 s2 → RelV x v → RelV y u → R x y H2 → wpAny (model X.prog X.w) X.A (f v u) Q X.xe s2) :
    wpAny (model X.prog X.w) X.A (eval a X.env) (fun v s₁ => wpAny (model X.prog X.w) X.A (eval b X.env) (fun u s₂ => wpAny (model X.prog X.w) X.A (f v u) Q X.xe s₂) X.xe s₁) X.xe s := by
  refine thn (ha pins s σ H _ I h) fun v s1 ⟨x, H1, I1, r1, q1⟩ => ?_
  refine thn (hb pins s1 σ H1 _ I1 q1) fun u s2 ⟨y, H2, I2, r2, q2⟩ => ?_
  exact hf v u s2 x y H2 I2 r1 r2 q2

theorem pe_op {op : Operator} {r : R2} (ho : OpR X (binaryOp op) r) (ha : PE X a ta) (hb : PE X b tb) : PE X (.BinOp a op b pos) (tOp r ta tb) := by
  intro pins s σ H Q I h
  exact wpAny_BinOp (binT ha hb I h fun v u s2 x y H2 I2 rx ry q => ho pins s2 σ H2 x y v u Q I2 rx ry q)
theorem pe_un {op : UnaryOp} {r : V → Hp → VK → Prop} (ho : UnR X (unaryOp op) r) (ha : PE X a ta) : PE X (.UnaryOp op a pos) (tUn r ta) := by
  intro pins s σ H Q I h
  exact UnaryOp_ (thn (ha pins s σ H _ I h) fun v s1 ⟨x, H1, I1, r1, q1⟩ => ho pins s1 σ H1 x v Q I1 r1 q1)
/-! ### ints -/
theorem opI {f : Value → Value → Sem Value} {C : Int → Int → Prop} {g : Int → Int → Int}
    (rule : ∀ (i j : Int) (t u : Tok) (s : Shared) (Q : Value → Shared → Prop) (E : Value → Shared → Prop), C i j → Q (.int (g i j) s.toks) { s with toks := s.toks + 1 } → wpAny (model X.prog X.w) X.A (f (.int i t) (.int j u)) Q E s) :
    OpR X f (rI C fun i j => .int (g i j)) := by
  intro pins s σ H x y v u Q I rx ry h
  obtain ⟨i, j, rfl, rfl, hc, q⟩ := h
  obtain ⟨t, rfl⟩ := rx
  obtain ⟨t', rfl⟩ := ry
  exact rule i j t t' s _ _ hc ⟨.int (g i j), H, I.tok _, ⟨_, rfl⟩, q⟩
theorem opI0 {f : Value → Value → Sem Value} {g : Int → Int → Int}
    (rule : ∀ (i j : Int) (t u : Tok) (s : Shared) (Q : Value → Shared → Prop) (E : Value → Shared → Prop), Q (.int (g i j) s.toks) { s with toks := s.toks + 1 } → wpAny (model X.prog X.w) X.A (f (.int i t) (.int j u)) Q E s) :
    OpR X f (rI0 fun i j => .int (g i j)) := by
  intro pins s σ H x y v u Q I rx ry h
  obtain ⟨i, j, rfl, rfl, q⟩ := h
  obtain ⟨t, rfl⟩ := rx
  obtain ⟨t', rfl⟩ := ry
  exact rule i j t t' s _ _ ⟨.int (g i j), H, I.tok _, ⟨_, rfl⟩, q⟩
theorem opB0 {f : Value → Value → Sem Value} {g : Int → Int → Bool}
    (rule : ∀ (i j : Int) (t u : Tok) (s : Shared) (Q : Value → Shared → Prop) (E : Value → Shared → Prop), Q (.bool (g i j)) s → wpAny (model X.prog X.w) X.A (f (.int i t) (.int j u)) Q E s) :
    OpR X f (rI0 fun i j => .bl (g i j)) := by
  intro pins s σ H x y v u Q I rx ry h
  obtain ⟨i, j, rfl, rfl, q⟩ := h
  obtain ⟨t, rfl⟩ := rx
  obtain ⟨t', rfl⟩ := ry
  exact rule i j t t' s _ _ ⟨.bl (g i j), H, I, rfl, q⟩

def CDiv (i j : Int) : Prop := 0 < j ∧ j < 1073741824
def CDivN (i j : Int) : Prop := j ≠ 0 ∧ j.natAbs < 1073741824
def CPow (i j : Int) : Prop := 0 ≤ j ∧ j ≤ 1000000 ∧ i.natAbs < 2 ^ 64
def CMul (i j : Int) : Prop := (-(2 ^ 64) < i ∧ i < 2 ^ 64) ∨ (-(2 ^ 64) < j ∧ j < 2 ^ 64)
theorem CMul.ok {i j : Int} (h : CMul i j) : IntMulOk i j := by
  rcases h with ⟨h1, h2⟩ | ⟨h1, h2⟩
  · exact .of_left (intBits_le_64 h1 h2)
  · exact .of_right (intBits_le_64 h1 h2)
theorem two_pow_nn (k : Nat) : (0 : Int) ≤ 2 ^ k := by
  rw [two_pow_cast]
  exact Int.natCast_nonneg _

theorem op_add : OpR X (binaryOp .Add) (rI0 fun i j => .int (i + j)) := opI0 fun _ _ _ _ _ _ _ q => add_int q
theorem op_sub : OpR X (binaryOp .Sub) (rI0 fun i j => .int (i - j)) := opI0 fun _ _ _ _ _ _ _ q => sub_int q
theorem op_mul : OpR X (binaryOp .Mult) (rI CMul fun i j => .int (i * j)) := opI fun _ _ _ _ _ _ _ hc q => mul_int q hc.ok
/-- % by a positive divisor of any size -/
theorem op_mod : OpR X (binaryOp .Mod) (rI (fun _ j => 0 < j) fun i j => .int (i % j)) := opI fun i j _ _ _ _ _ hc q => by
  have h1 : (0 : Int) < j := hc
  exact mod_int' (by omega) (by rw [Int.fmod_eq_emod_of_nonneg i (by omega)]; exact q)
theorem op_pow : OpR X (binaryOp .Pow) (rI CPow fun i j => .int (i ^ j.toNat)) := opI fun _ _ _ _ _ _ _ hc q => pow_int_small hc.1 hc.2.1 hc.2.2 q
theorem op_shl : OpR X (binaryOp .LShift) (rI CPow fun i j => .int (i * 2 ^ j.toNat)) := opI fun _ _ _ _ _ _ _ hc q => lshift_int_small hc.1 hc.2.1 hc.2.2 q
theorem op_shr : OpR X (binaryOp .RShift) (rI (fun _ j => 0 ≤ j) fun i j => .int (i / 2 ^ j.toNat)) := opI fun i j _ _ _ _ _ hc q =>
  rshift_int hc (by rw [Int.fdiv_eq_ediv_of_nonneg i (two_pow_nn _)]; exact q)
theorem op_and : OpR X (binaryOp .BitAnd) (rI0 fun i j => .int (Builtin.bitAnd i j)) := opI0 fun _ _ _ _ _ _ _ q => and_int q
theorem op_or : OpR X (binaryOp .BitOr) (rI0 fun i j => .int (Builtin.bitOr i j)) := opI0 fun _ _ _ _ _ _ _ q => or_int q
theorem unI {f : Value → Sem Value} {g : Int → Int}
    (rule : ∀ (i : Int) (t : Tok) (s : Shared) (Q : Value → Shared → Prop) (E : Value → Shared → Prop), Q (.int (g i) s.toks) { s with toks := s.toks + 1 } → wpAny (model X.prog X.w) X.A (f (.int i t)) Q E s) :
    UnR X f (rU fun i => .int (g i)) := by
  intro pins s σ H x v Q I rx h
  obtain ⟨i, rfl, q⟩ := h
  obtain ⟨t, rfl⟩ := rx
  exact rule i t s _ _ ⟨.int (g i), H, I.tok _, ⟨_, rfl⟩, q⟩
theorem un_neg : UnR X (unaryOp .USub) (rU fun i => .int (-i)) := unI fun _ _ _ _ _ q => neg_int q
/-! ### bools among ints: n += (a < b) -/
end

/-! ### comparisons -/
/-- the scalars that == tells apart as data does -/
def scal : V → V → Bool
  | .non, .non => true | .non, .int _ => true | .int _, .non => true | .non, .bl _ => true | .bl _, .non => true | .non, .str _ => true | .str _, .non => true
  | .int _, .int _ => true | .bl _, .bl _ => true | .str _, .str _ => true | .byt _, .byt _ => true
  | .int _, .str _ => true | .str _, .int _ => true | .bl _, .str _ => true | .str _, .bl _ => true
  | _, _ => false
def rEq : R2 := fun x y H Q => scal x y = true ∧ Q (.bl (decide (x = y))) H
def rNe : R2 := fun x y H Q => scal x y = true ∧ Q (.bl (!decide (x = y))) H

theorem dec_int {i j : Int} : decide (V.int i = V.int j) = (i == j) := by
  rw [Bool.eq_iff_iff]
  simp
theorem dec_bl {i j : Bool} : decide (V.bl i = V.bl j) = (i == j) := by
  rw [Bool.eq_iff_iff]
  simp
theorem dec_str {i j : Str} : decide (V.str i = V.str j) = (i == j) := by
  rw [Bool.eq_iff_iff]
  simp
theorem dec_byt {i j : Array UInt8} : decide (V.byt i = V.byt j) = (i.toList == j.toList) := by
  rw [Bool.eq_iff_iff]
  cases i
  cases j
  simp

section
variable {X : Cx} {a b c : Expr} {ta tb tc : TE} {pos : Pos}
theorem fin_bl {pins : List (Addr × Obj)} {σ : St} {H : Hp} {s : Shared} {Q : VK} {k k' : Bool} (I : Inv X pins σ H s) (q : Q (.bl k) H) (e : k = k') : EP X pins σ Q (.bool k') s := by
  subst e
  exact ⟨.bl k, H, I, rfl, q⟩
theorem op_eq : OpR X (compareOp .Eq) rEq := by
  intro pins s σ H x y v u Q I rx ry h
  obtain ⟨hs, q⟩ := h
  cases x with
  | non =>
    cases rx
    cases y with
    | non => cases ry; exact PySem.EqNone.eq_none_none (fin_bl I q (by simp))
    | bl j => cases ry; exact PySem.EqNone.eq_none_bool (fin_bl I q (by simp))
    | int j => obtain ⟨t', rfl⟩ := ry; exact PySem.EqNone.eq_none_int (fin_bl I q (by simp))
    | str j => obtain ⟨t', rfl⟩ := ry; exact PySem.EqNone.eq_none_str (fin_bl I q (by simp))
    | _ => exact absurd (show false = true from hs) Bool.false_ne_true
  | bl i =>
    cases rx
    cases y with
    | non => cases ry; exact PySem.EqNone.eq_bool_none (fin_bl I q (by simp))
    | bl j => cases ry; exact eq_bool (fin_bl I q dec_bl)
    | str j => obtain ⟨t', rfl⟩ := ry; exact PySem.EqMixed.eq_bool_str (fin_bl I q (by simp))
    | _ => exact absurd (show false = true from hs) Bool.false_ne_true
  | int i =>
    obtain ⟨t, rfl⟩ := rx
    cases y with
    | non => cases ry; exact PySem.EqNone.eq_int_none (fin_bl I q (by simp))
    | int j => obtain ⟨t', rfl⟩ := ry; exact eq_int (fin_bl I q dec_int)
    | str j => obtain ⟨t', rfl⟩ := ry; exact PySem.EqMixed.eq_int_str (fin_bl I q (by simp))
    | _ => exact absurd (show false = true from hs) Bool.false_ne_true
  | str i =>
    obtain ⟨t, rfl⟩ := rx
    cases y with
    | non => cases ry; exact PySem.EqNone.eq_str_none (fin_bl I q (by simp))
    | bl j => cases ry; exact PySem.EqMixed.eq_str_bool (fin_bl I q (by simp))
    | int j => obtain ⟨t', rfl⟩ := ry; exact PySem.EqMixed.eq_str_int (fin_bl I q (by simp))
    | str j => obtain ⟨t', rfl⟩ := ry; exact eq_str (fin_bl I q dec_str)
    | _ => exact absurd (show false = true from hs) Bool.false_ne_true
  | byt i =>
    obtain ⟨t, rfl⟩ := rx
    cases y with
    | byt j => obtain ⟨t', rfl⟩ := ry; exact PySem.W.eq_bytes (fin_bl I q dec_byt)
    | _ => exact absurd (show false = true from hs) Bool.false_ne_true
  | _ => cases y <;> exact absurd (show false = true from hs) Bool.false_ne_true
theorem op_ne : OpR X (compareOp .NotEq) rNe := by
  intro pins s σ H x y v u Q I rx ry h
  obtain ⟨hs, q⟩ := h
  cases x with
  | non =>
    cases rx
    cases y with
    | non => cases ry; exact PySem.EqNone.ne_none_none (fin_bl I q (by simp))
    | bl j => cases ry; exact PySem.EqNone.ne_none_bool (fin_bl I q (by simp))
    | int j => obtain ⟨t', rfl⟩ := ry; exact PySem.EqNone.ne_none_int (fin_bl I q (by simp))
    | str j => obtain ⟨t', rfl⟩ := ry; exact PySem.EqNone.ne_none_str (fin_bl I q (by simp))
    | _ => exact absurd (show false = true from hs) Bool.false_ne_true
  | bl i =>
    cases rx
    cases y with
    | non => cases ry; exact PySem.EqNone.ne_bool_none (fin_bl I q (by simp))
    | bl j => cases ry; exact ne_bool (fin_bl I q (congrArg not dec_bl))
    | str j => obtain ⟨t', rfl⟩ := ry; exact PySem.EqMixed.ne_bool_str (fin_bl I q (by simp))
    | _ => exact absurd (show false = true from hs) Bool.false_ne_true
  | int i =>
    obtain ⟨t, rfl⟩ := rx
    cases y with
    | non => cases ry; exact PySem.EqNone.ne_int_none (fin_bl I q (by simp))
    | int j => obtain ⟨t', rfl⟩ := ry; exact ne_int (fin_bl I q (congrArg not dec_int))
    | str j => obtain ⟨t', rfl⟩ := ry; exact PySem.EqMixed.ne_int_str (fin_bl I q (by simp))
    | _ => exact absurd (show false = true from hs) Bool.false_ne_true
  | str i =>
    obtain ⟨t, rfl⟩ := rx
    cases y with
    | non => cases ry; exact PySem.EqNone.ne_str_none (fin_bl I q (by simp))
    | bl j => cases ry; exact PySem.EqMixed.ne_str_bool (fin_bl I q (by simp))
    | int j => obtain ⟨t', rfl⟩ := ry; exact PySem.EqMixed.ne_str_int (fin_bl I q (by simp))
    | str j => obtain ⟨t', rfl⟩ := ry; exact ne_str (fin_bl I q (congrArg not dec_str))
    | _ => exact absurd (show false = true from hs) Bool.false_ne_true
  | byt i =>
    obtain ⟨t, rfl⟩ := rx
    cases y with
    | byt j => obtain ⟨t', rfl⟩ := ry; exact PySem.W.ne_bytes (fin_bl I q (congrArg not dec_byt))
    | _ => exact absurd (show false = true from hs) Bool.false_ne_true
  | _ => cases y <;> exact absurd (show false = true from hs) Bool.false_ne_true

theorem op_lt : OpR X (compareOp .Lt) (rI0 fun i j => .bl (decide (i < j))) := opB0 fun _ _ _ _ _ _ _ q => lt_int q
theorem op_gt : OpR X (compareOp .Gt) (rI0 fun i j => .bl (decide (j < i))) := opB0 fun _ _ _ _ _ _ _ q => gt_int q
/-- is, is not of two objects that are tracked lists or instances -/
def isObj : HO → Bool
  | .lst _ => true
  | .ins _ _ _ => true
  | _ => false
theorem nomark (b : Expr) {op : CmpOp} (h : op ≠ .In := by decide) (h2 : op ≠ .NotIn := by decide) : behindInMarks op b = false := by
  have e1 : (op == CmpOp.In) = false := by cases op <;> first | rfl | exact absurd rfl h
  have e2 : (op == CmpOp.NotIn) = false := by cases op <;> first | rfl | exact absurd rfl h2
  cases b <;> simp [behindInMarks, e1, e2]
/-- a comparison as a value; hm: nomark b, or (for in, not in) by with_unfolding_all rfl -/
theorem pe_cmpR {op : CmpOp} {r : R2} (ho : OpR X (compareOp op) r) (ha : PE X a ta) (hb : PE X b tb) (hm : behindInMarks op b = false) : PE X (.Compare a [op] [b] pos) (tOp r ta tb) := by
  intro pins s σ H Q I h
  exact wpAny_Compare1 (binT ha hb I h fun v u s2 x y H2 I2 rx ry q => ho pins s2 σ H2 x y v u Q I2 rx ry q) hm
/-- a reading of a value as a test -/
def tTest (t : TE) : TT := fun σ H Q => t σ H fun x H' => ∃ k, x = .bl k ∧ Q k H'
theorem pt_cmpR {op : CmpOp} {r : R2} (ho : OpR X (compareOp op) r) (ha : PE X a ta) (hb : PE X b tb) (hm : behindInMarks op b = false) : PT X (.Compare a [op] [b] pos) (tTest (tOp r ta tb)) := by
  intro pins s σ H Q I h
  refine wpAny_isTrue_Compare1 (thn (ha pins s σ H _ I h) fun v s1 ⟨x, H1, I1, r1, q1⟩ => thn (hb pins s1 σ H1 _ I1 q1) fun u s2 ⟨y, H2, I2, r2, q2⟩ =>
    thn (ho pins s2 σ H2 x y v u _ I2 r1 r2 q2) fun c s3 ⟨z, H3, I3, r3, k, e, q3⟩ => ?_) hm
  subst e
  cases r3
  exact wpAny_truthy_bool ⟨H3, I3, q3⟩
/-- a op1 b op2 c -/
def tChain (r r' : R2) (ta tb tc : TE) : TE := fun σ H Q => ta σ H fun x H1 => tb σ H1 fun y H2 => r x y H2 fun z H3 => ∃ k, z = .bl k ∧
  (if k = true then tc σ H3 fun w' H4 => r' y w' H4 Q else Q (.bl false) H3)
/-! ### truth -/
/-- a value's truth by the abstract heap -/
def TruV (K : PySem.W.Frag) (x : V) (H : Hp) (k : Bool) : Prop :=
  match x with
  | .non => k = false
  | .bl b => k = b
  | .int i => k = (i != 0)
  | .str y => y.length ≤ sizeLine ∧ k = ((y.length : Int) != 0)
  | .byt y => y.size ≤ sizeLine ∧ k = ((y.size : Int) != 0)
  | .ref p => (∃ xs, SqL K H p xs ∧ k = !xs.isEmpty) ∨ (∃ xs, SqT K H p xs ∧ k = !xs.isEmpty) ∨ ∃ kvs, H p = some (.dK kvs) ∧ k = !kvs.isEmpty
  | _ => False
theorem line63 : (sizeLine : Nat) < 2 ^ 63 := by rw [sizeLine_eq]; decide
/-! ### strs and bytes -/
theorem op_add_str : OpR X (binaryOp .Add) (fun x y H Q => ∃ i j, x = .str i ∧ y = .str j ∧ i.length + j.length ≤ sizeLine ∧ Q (.str (i ++ j)) H) := by
  intro pins s σ H x y v u Q I rx ry h
  obtain ⟨i, j, rfl, rfl, hz, q⟩ := h
  obtain ⟨t, rfl⟩ := rx
  obtain ⟨t', rfl⟩ := ry
  exact add_str (fun t' tk => ⟨.str (i ++ j), H, I.tok _, ⟨_, rfl⟩, q⟩) hz
def PlainIxT (b : Expr) : Prop := ∀ o i, subscripted b false o i = operate [o, i] (getItem o i)
/-! ### scalar builtins, by CallR -/
theorem vals1 {x : V} {us : List Value} (r : Vals [x] us) : ∃ u, us = [u] ∧ RelV x u := by
  cases r with
  | cons r1 r2 => cases r2; exact ⟨_, rfl, r1⟩
theorem call_str_int : CallR X (.type "str") (fun xs H Q => ∃ i, xs = [.int i] ∧ i.natAbs.log2 < 1920 ∧ Q (.str (toString i)) H) := by
  intro pins s σ H xs us Q I r h
  obtain ⟨i, rfl, hz, q⟩ := h
  obtain ⟨u, rfl, t, rfl⟩ := vals1 r
  exact PySem.P.str_of_int hz ⟨.str _, H, I.tok _, ⟨_, rfl⟩, q⟩
/-- len of a str, a bytes, a list, a tuple -/
def LenV (K : PySem.W.Frag) (x : V) (H : Hp) (n : Nat) : Prop :=
  match x with
  | .str y => y.length ≤ sizeLine ∧ n = y.length
  | .byt y => y.size ≤ sizeLine ∧ n = y.size
  | .ref p => (∃ xs, SqL K H p xs ∧ n = xs.length) ∨ ∃ xs, SqT K H p xs ∧ n = xs.length
  | _ => False
end
end L2

namespace L2
open PySem PySem.Spec PyProof.Rows

/-! ### an instance, its attributes a map -/
structure ObjM (h : Heap) (x dx C : Addr) (mA : Str → Option Value) : Prop where
  obj : h.get? x = some (PySem.W.instObj C dx)
  ns : h.Ns1 dx mA
  ne : dx ≠ x

section
variable {prog : Program} {w : World} {A : Around} {E : Value → Shared → Prop} {s : Shared} {K : PySem.W.Frag} {x dx C f : Addr} {mA : Str → Option Value} {name : Str} {v : Value}

end

/-! ### the attributes as a list of pairs -/
def putF (f : Str) (v : V) : List (Str × V) → List (Str × V)
  | [] => [(f, v)]
  | (g, x) :: r => if g = f then (g, v) :: r else (g, x) :: putF f v r
theorem RelO.some_of {v : V} {o : Option Value} (r : RelO (some v) o) : ∃ u, o = some u ∧ RelV v u := by
  cases o with
  | none => exact (show False from r).elim
  | some u => exact ⟨u, rfl, r⟩
section
variable {P : Program} {w : World} {H H' : Hp} {h h' : Heap} {a C dx : Addr} {fs fs' : List (Str × V)}
end

/-! ### what of the text a class must have -/
structure Cls (K : PySem.W.Frag) (C : Addr) : Prop where
  pg : PySem.W.plainGet K C Str.empty = true
  hd : PySem.W.hasDictIn K C = true
  po : PySem.W.plainOver K C = true
  sa : PySem.W.findIn K (.ref C) "__setattr__" = some (some (.builtin "object.__setattr__"))
/-- no class of it has the name -/
def NoAttr (K : PySem.W.Frag) (C : Addr) (f : Str) : Prop := PySem.W.findIn K (.ref C) f = some none
/-- a constant of the class -/
structure Con (K : PySem.W.Frag) (C : Addr) (f : Str) (v : V) (u : Value) : Prop where
  at_ : PySem.W.findIn K (.ref C) f = some (some u)
  rel : RelV v u
  get : PySem.W.specialIn K u "__get__" = some none
  cp : PySem.W.copiedNames.contains f = false
/-- a method: a plain def of the class or of one above it -/
structure Meth (K : PySem.W.Frag) (C : Addr) (m : Str) (f : Addr) : Prop where
  at_ : PySem.W.findIn K (.ref C) m = some (some (.ref f))
  fn : PySem.W.isFn K (.ref f) = true
  kp : PySem.W.keepIn K (.ref f) = true

section
variable {X : Cx} {pins : List (Addr × Obj)} {σ : St} {H : Hp} {s : Shared} {a C dx : Addr} {fs : List (Str × V)} {f : Str} {v : V} {A : Around} {E : Value → Shared → Prop}

end

/-! ### readings and rules -/
/-- e.f, an attribute of the instance -/
def tFld (K : PySem.W.Frag) (ta : TE) (f : Str) : TE := fun σ H Q => ta σ H fun x H1 => ∃ a C dx fs v, x = .ref a ∧ H1 a = some (.ins C dx fs) ∧ Cls K C ∧ NoAttr K C f ∧ fs.lookup f = some v ∧ Q v H1
/-- e.f, a constant of the class -/
def tCon (K : PySem.W.Frag) (ta : TE) (f : Str) : TE := fun σ H Q => ta σ H fun x H1 => ∃ a C dx fs v u, x = .ref a ∧ H1 a = some (.ins C dx fs) ∧ Cls K C ∧ Con K C f v u ∧ fs.lookup f = none ∧ Q v H1
/-- e.f = value -/
def sFld (K : PySem.W.Frag) (ta tv : TE) (f : Str) : TS := fun D σ H => tv σ H fun y H1 => ta σ H1 fun x H2 => ∃ a C dx fs, x = .ref a ∧ H2 a = some (.ins C dx fs) ∧ Cls K C ∧ NoAttr K C f ∧ fs.length < 1000 ∧
  D.nx σ (upd H2 a (.ins C dx (putF f y fs)))
/-- an augmented operator on two values -/
def InOp (X : Cx) (op : Operator) (rd : V → V → Hp → VK → Prop) : Prop :=
  ∀ (pins : List (Addr × Obj)) (s : Shared) (σ : St) (H : Hp) (x y : V) (u v : Value) (Q : VK), Inv X pins σ H s → RelV x u → RelV y v → rd x y H Q → wpAny (model X.prog X.w) X.A (inplaceOp op u v) (EP X pins σ Q) X.xe s
/-- e.f op= value -/
def sFldAug (K : PySem.W.Frag) (ta tv : TE) (rd : V → V → Hp → VK → Prop) (f : Str) : TS := fun D σ H => ta σ H fun x H1 => ∃ a C dx fs v, x = .ref a ∧ H1 a = some (.ins C dx fs) ∧ Cls K C ∧ NoAttr K C f ∧ fs.lookup f = some v ∧
  tv σ H1 fun y H2 => rd v y H2 fun z H3 => ∃ dx' fs', H3 a = some (.ins C dx' fs') ∧ fs'.length < 1000 ∧ D.nx σ (upd H3 a (.ins C dx' (putF f z fs')))

section
variable {X : Cx} {o e value : Expr} {f : Str} {pos pos' tpos : Pos} {ta tv : TE}
def rAdd : V → V → Hp → VK → Prop := fun x y H Q => ∃ i j, x = .int i ∧ y = .int j ∧ Q (.int (i + j)) H
def rSub : V → V → Hp → VK → Prop := fun x y H Q => ∃ i j, x = .int i ∧ y = .int j ∧ Q (.int (i - j)) H
end

/-! ### isinstance -/
section
variable {X : Cx} {pins : List (Addr × Obj)} {σ : St} {H : Hp} {s : Shared} {A : Around} {E : Value → Shared → Prop} {Q : Value → Shared → Prop} {c : Value} {b : Bool}
/-- the type of a value, as the fragment's deciders take it; for an instance its class -/
inductive TyOf (K : PySem.W.Frag) (H : Hp) : V → Value → Prop where
  | non : TyOf K H .non (.type "NoneType")
  | bl (x : Bool) : TyOf K H (.bl x) (.type "bool")
  | int (i : Int) : TyOf K H (.int i) (.type "int")
  | str (x : Str) : TyOf K H (.str x) (.type "str")
  | flt (x : UInt64) : TyOf K H (.flt x) (.type "float")
  | lst {a : Addr} {xs : List V} (e : H a = some (.lst xs)) : TyOf K H (.ref a) (.type "list")
  | frz {a : Addr} {o : Obj} {xs : List V} (e : H a = some (.frz o (.lst xs))) : TyOf K H (.ref a) (.type "list")
  | tup {a : Addr} {xs : List V} (e : H a = some (.tup xs)) : TyOf K H (.ref a) (.type "tuple")
  | dK {a : Addr} {kvs : List (Key × V)} (e : H a = some (.dK kvs)) : TyOf K H (.ref a) (.type "dict")
  | dT {a : Addr} {kvs : List (List Key × V)} (e : H a = some (.dT kvs)) : TyOf K H (.ref a) (.type "dict")
  | ins {a C dx : Addr} {fs : List (Str × V)} (e : H a = some (.ins C dx fs)) (cl : Cls K C) (ha : PySem.W.findIn K (.ref C) "__class__" = some (some (.builtin "object.__class__")))
      (hn : PySem.W.specialIn K (.builtin "object.__class__") "__get__" = some (some (.builtin "getset_descriptor.__get__"))) (htk : PySem.W.takesIn K (.builtin "object.__class__") = some true)
      (hm : PySem.W.mroIn K C (.type "object") = some true) : TyOf K H (.ref a) (.ref C)
end
end L2

namespace L2
open PySem PySem.Spec PyProof.Rows

/-! ### room -/
structure Room (k : Nat) (A : Around) : Prop where
  hd : A.handled = none
  dp : A.depth + 3 * k + 5 < recursionLimit
  un : A.units + 16 * k + 200 < cLine
theorem Room.mono {j k : Nat} {A : Around} (r : Room k A) (h : j ≤ k) : Room j A := ⟨r.hd, by have := r.dp; omega, by have := r.un; omega⟩
theorem Room.deeper {k : Nat} {A : Around} (r : Room (k + 1) A) (env : Env) : Room k (A.deeper env) :=
  ⟨r.hd, by have := r.dp; show A.depth + 1 + 3 * k + 5 < _; omega, by have := r.un; show A.units + 3 + 16 * k + 200 < _; omega⟩
theorem Room.depth {k : Nat} {A : Around} (r : Room k A) : A.depth < recursionLimit := by have := r.dp; omega
theorem Room.units {k : Nat} {A : Around} (r : Room k A) : A.units + 64 < cLine := by have := r.un; omega
/-! ### argument lists and displays -/
def tNil : TA := fun _ H Q => Q [] H
def tCons (ta : TE) (tr : TA) : TA := fun σ H Q => ta σ H fun x H1 => tr σ H1 fun xs H2 => Q (x :: xs) H2
section
variable {X : Cx} {e : Expr} {es : List Expr} {te : TE} {t : TA} {pos : Pos}
theorem pa_nil : PA X [] tNil := fun _ _ _ _ H Q I h => Calls.spliced_nil ⟨[], H, I, .nil, h⟩
theorem pa_cons (ha : PE X e te) (hr : PA X es t) (hs : starEach (e :: es) X.env = (false, eval e X.env) :: starEach es X.env := by rfl) : PA X (e :: es) (tCons te t) := by
  intro pos pins s σ H Q I h
  rw [hs]
  show wpAny _ _ (spliced ((false, eval e X.env) :: backTo pos (starEach es X.env))) _ _ s
  refine Calls.spliced_cons (thn (ha pins s σ H _ I h) fun u s1 ⟨x, H1, I1, r1, q1⟩ => ?_)
  exact thn (hr pos pins s1 σ H1 _ I1 q1) fun us s2 ⟨xs, H2, I2, r2, q2⟩ => ⟨x :: xs, H2, I2, .cons r1 r2, q2⟩

/-- a tuple, a list of written items -/
def tTup (t : TA) : TE := fun σ H Q => t σ H fun xs H1 => xs.length ≤ sizeLine ∧ ∀ p, H1 p = none → Q (.ref p) (upd H1 p (.tup xs))
def tLst (t : TA) : TE := fun σ H Q => t σ H fun xs H1 => xs.length ≤ sizeLine ∧ ∀ p, H1 p = none → Q (.ref p) (upd H1 p (.lst xs))
theorem pe_tup {x1} (h : PA X es t) : PE X (.Tuple es x1 pos) (tTup t) := by
  intro pins s σ H Q I hq
  refine wpAny_Tuple_spliced (thn (h pos pins s σ H _ I hq) fun us s1 ⟨xs, H1, I1, r, z, q⟩ => ⟨by rw [← r.length]; exact z, ?_⟩)
  have hf : H1 s1.heap.objs.size = none := I1.hok.fresh (Nat.le_refl _)
  refine ⟨.ref s1.heap.objs.size, upd H1 s1.heap.objs.size (.tup xs), I1.laid (t' := s1.toks) (fun b u e => Heap.get?_push_of_some _ e) (Nat.le_refl _) ?_, rfl, q _ hf⟩
  exact ⟨z, us, r, ⟨_, Heap.get?_push_size _ rfl, rfl, _, rfl⟩⟩
theorem pe_lst (h : PA X es t) : PE X (.List es pos) (tLst t) := by
  intro pins s σ H Q I hq
  refine wpAny_List_spliced (thn (h pos pins s σ H _ I hq) fun us s1 ⟨xs, H1, I1, r, z, q⟩ => ⟨by rw [← r.length]; exact z, ?_⟩)
  have hf : H1 s1.heap.objs.size = none := I1.hok.fresh (Nat.le_refl _)
  refine ⟨.ref s1.heap.objs.size, upd H1 s1.heap.objs.size (.lst xs), I1.laid (t' := s1.toks) (fun b u e => Heap.get?_push_of_some _ e) (Nat.le_refl _) ?_, rfl, q _ hf⟩
  exact ⟨z, us, 0, r, Heap.get?_push_size _ rfl⟩
end

/-! ### what a def promises -/
/-- a def's promise: the bound arguments in the parameters' order, the heap, the wanted end, the wanted exception -/
abbrev Sp := List V → Hp → VK → XK → Prop
/-- how an exception lies behind a call (file 08 gives it): the callers' frames, abstract heap and state ahead of the call, the wish, the exception, the state -/
abbrev CXT := List Env → Hp → Shared → XK → Value → Shared → Prop

/-- the state at a call -/
structure Env0 (P : Program) (w : World) (K : PySem.W.Frag) (mg : Str → Option Value) (base : Heap) (A : Around) (outer : List Env) (s : Shared) (H : Hp) : Prop where
  frames : A.frames = some outer
  mod : Mod K mg base
  bs : ∀ b o, base.get? b = some o → s.heap.get? b = some o ∧ H b = none
  bsz : base.objs.size ≤ s.heap.objs.size
  funs : s.heap.FunFrames base outer
  frf : ∀ b ∈ frs outer, H b = none
  hok : HOk P w H s.heap
  bare : AllBare s.gens
/-- a call's end -/
def CE (outer : List Env) (P : Program) (w : World) (H : Hp) (s : Shared) (Q : VK) (u : Value) (s' : Shared) : Prop :=
  ∃ v H', s'.os = s.os ∧ AllBare s'.gens ∧ Un (frs outer) [] H H' s.heap s'.heap ∧ HOk P w H' s'.heap ∧ RelV v u ∧ Q v H'
def CR (CX : CXT) (outer : List Env) (P : Program) (w : World) (H : Hp) (s : Shared) (Q : VK) (E : XK) (r : Result) (s' : Shared) : Prop :=
  match r with
  | .ok (.ret u) => CE outer P w H s Q u s'
  | .ok _ => False
  | .error e => CX outer H s E e s'
structure FnOk (P : Program) (w : World) (K : PySem.W.Frag) (mg : Str → Option Value) (base : Heap) (CX : CXT) (k : Nat) (f : Addr) (fd : FuncData) (ps : List Str) (sp : Sp) : Prop where
  len : ∀ vs H Q E, sp vs H Q E → vs.length = ps.length
  run : ∀ (A : Around) (outer : List Env) (s : Shared) (H : Hp) (args : Args) (us : List Value) (vs : List V) (Q : VK) (E : XK), Room k A → Env0 P w K mg base A outer s H → BindsTo s fd args (ps.zip us) → Vals vs us → sp vs H Q E →
    codeAny (model P w) A (.call (.ref f) args) (CR CX outer P w H s Q E) s
section
variable {X : Cx} {pins : List (Addr × Obj)} {σ : St} {H : Hp} {s s' : Shared}
/-- from a body: what a callee wants -/
theorem Inv.env0 (I : Inv X pins σ H s) : Env0 X.prog X.w X.K X.mg X.base X.A X.stack s H :=
  ⟨I.ok.frames, I.ok.mod, I.bs, Nat.le_trans I.ok.bsz I.sz, I.stack, I.stkFree, I.hok, I.bare⟩
/-- behind a call -/
theorem Inv.after {Q : VK} {u : Value} (I : Inv X pins σ H s) (h : CE X.stack X.prog X.w H s Q u s') : EP X pins σ Q u s' := by
  obtain ⟨v, H', os, bare, un, hok, r, q⟩ := h
  obtain ⟨hh, g, d, t, os'⟩ := s'
  obtain rfl : os' = s.os := os
  exact ⟨v, H', I.call (h' := hh) (g' := g) (d' := d) (t' := t) (ch := []) un hok bare (fun b z => absurd z (by simp)), r, q⟩
end

/-! ### calls -/
/-- f(..): the written arguments, then the defaults dvs; E: what is wanted of an exception -/
def tCall (sp : Sp) (dvs : List V) (E : XK) (t : TA) : TE := fun σ H Q => t σ H fun vs H1 => sp (vs ++ dvs) H1 Q E
/-- o.m(..) of an instance of the class at C -/
def tMeth (C : Addr) (m : Str) (sp : Sp) (dvs : List V) (E : XK) (ta : TE) (t : TA) : TE := fun σ H Q => ta σ H fun x H1 => ∃ a dx fs, x = .ref a ∧ H1 a = some (.ins C dx fs) ∧ fs.lookup m = none ∧
  t σ H1 fun vs H2 => sp (x :: (vs ++ dvs)) H2 Q E
/-- C(..): a new instance and its dict, then __init__ -/
def tMake (C : Addr) (sp : Sp) (dvs : List V) (E : XK) (t : TA) : TE := fun σ H Q => t σ H fun vs H1 => ∀ x dx, H1 x = none → H1 dx = none → dx ≠ x →
  sp (.ref x :: (vs ++ dvs)) (upd (upd H1 dx (.own x)) x (.ins C dx [])) (fun v H2 => v = .non ∧ Q (.ref x) H2) E

/-- how the parameters are bound: us the positional arguments, kw the keywords' values by name, ds the defaults that fill up -/
def Binds (K : PySem.W.Frag) (fd : FuncData) (ps : List Str) (ds : List Value) : Prop :=
  ∀ (s : Shared) (us : List Value), K.In s.heap → (us ++ ds).length = ps.length → BindsTo s fd ⟨us, []⟩ (ps.zip (us ++ ds))
/-- every parameter is given -/
theorem Binds.all {K : PySem.W.Frag} {fd : FuncData} {ps : List Str} (h : ∀ us : List Value, us.length = ps.length → bindArgs fd ⟨us, []⟩ = pure (ps.zip us)) : Binds K fd ps [] := fun s us _ hl => by
  rw [List.append_nil] at hl ⊢
  exact .of_eq (h us hl)

/-- an exception of a callee reaches what this body wants of exceptions -/
def Passes (CX : CXT) (X : Cx) (E : XK) : Prop := ∀ (pins : List (Addr × Obj)) (σ : St) (H : Hp) (s : Shared) (e : Value) (s' : Shared), Inv X pins σ H s → CX X.stack H s E e s' → X.xe e s'

section
variable {X : Cx} {CX : CXT} {k : Nat} {f C : Addr} {fd : FuncData} {ps : List Str} {sp : Sp} {dvs : List V} {ds : List Value} {E : XK} {x m : Str} {p pos apos : Pos} {e o : Expr} {es : List Expr} {ta : TE} {t : TA}

/-- the callee runs -/
theorem run_fn {pins : List (Addr × Obj)} {σ : St} {H : Hp} {s : Shared} {Q : VK} {us : List Value} {vs : List V} (F : FnOk X.prog X.w X.K X.mg X.base CX k f fd ps sp) (hr : Room k X.A) (hb : Binds X.K fd ps ds) (hd : Vals dvs ds) (hx : Passes CX X E)
    (I : Inv X pins σ H s) (r : Vals vs us) (h : sp (vs ++ dvs) H Q E) : wpAny (model X.prog X.w) X.A (call (.ref f) us) (EP X pins σ Q) X.xe s := by
  have r2 : Vals (vs ++ dvs) (us ++ ds) := r.append hd
  have hl : (us ++ ds).length = ps.length := by rw [← r2.length]; exact F.len _ _ _ _ h
  refine wpAny_call (codeAny_mono (F.run X.A X.stack s H ⟨us, []⟩ (us ++ ds) (vs ++ dvs) Q E hr I.env0 (hb s us I.kIn hl) r2 h) fun r s' hq => ?_)
  cases r with
  | error e => exact hx pins σ H s e s' I hq
  | ok fl =>
    cases fl with
    | ret u => exact I.after hq
    | next => exact False.elim hq
    | brk => exact False.elim hq
    | cont => exact False.elim hq

theorem pe_call (F : FnOk X.prog X.w X.K X.mg X.base CX k f fd ps sp) (hr : Room k X.A) (hg : Gl X x) (hm : X.mg x = some (.ref f)) (hk : PySem.W.keepIn X.K (.ref f) = true) (hb : Binds X.K fd ps ds) (hd : Vals dvs ds) (hx : Passes CX X E)
    (ha : PA X (e :: es) t) (hdb : (x == ("__debug__" : Str)) = false := by decide) (he : starEach (e :: es) X.env = (false, eval e X.env) :: starEach es X.env := by rfl) (hpl : (backTo pos (starEach es X.env)).any (·.1) = false := by rfl) :
    PE X (.Call (.Name x p) (e :: es) [] pos) (tCall sp dvs E t) := by
  intro pins s σ H Q I h
  refine wpAny_Call_Name_kw (ld_glob I hg hm ?_ hdb)
  refine PySem.W.callWith_K (h₀ := X.base) I.ok.mod.kin hk (thn (ha pos pins s σ H _ I h) fun us s1 ⟨vs, H1, I1, r, q⟩ => ⟨I1.kIn, ?_⟩) he hpl
  exact run_fn F hr hb hd hx I1 r q
/-- what a class must have to be made -/
structure Mk (K : PySem.W.Frag) (C f : Addr) : Prop where
  makes : PySem.W.makesIn K C = true
  init : PySem.W.findIn K (.ref C) "__init__" = some (some (.ref f))
  fn : PySem.W.isFn K (.ref f) = true
  kp : PySem.W.keepIn K (.ref C) = true

end

/-! ### keywords -/
/-- the values of the keywords, from the left -/
def PK (X : Cx) (kws : List Keyword) (t : TA) : Prop :=
  ∀ (pos : Pos) (pins : List (Addr × Obj)) (s : Shared) (σ : St) (H : Hp) (Q : List V → Hp → Prop), Inv X pins σ H s → t σ H Q → wpAny (model X.prog X.w) X.A (evalAll ((backToKw pos (keywordEach kws X.env)).map (·.2))) (AP X pins σ Q) X.xe s
section
variable {X : Cx} {CX : CXT} {k : Nat} {f C : Addr} {fd : FuncData} {ps ks : List Str} {sp : Sp} {E : XK} {x m : Str} {p pos apos kpos : Pos} {e o : Expr} {es : List Expr} {kws : List Keyword} {te ta : TE} {t tk : TA} {nm : Option Str}
/-- how a call with keywords binds: g puts the positional values us and the keywords' values ws (names ks) in the parameters' order, defaults among them -/
structure KBinds (K : PySem.W.Frag) (fd : FuncData) (ps ks : List Str) (g : List Value → List Value → List Value) (gV : List V → List V → List V) : Prop where
  to : ∀ (s : Shared) (us ws : List Value), K.In s.heap → (g us ws).length = ps.length → BindsTo s fd ⟨us, ks.zip ws⟩ (ps.zip (g us ws))
  rel : ∀ {vs : List V} {us : List Value} {zs : List V} {ws : List Value}, Vals vs us → Vals zs ws → Vals (gV vs zs) (g us ws)
def tCallK (sp : Sp) (gV : List V → List V → List V) (E : XK) (t tk : TA) : TE := fun σ H Q => t σ H fun vs H1 => tk σ H1 fun zs H2 => sp (gV vs zs) H2 Q E
variable {g : List Value → List Value → List Value} {gV : List V → List V → List V}
end

/-! ### a def's body keeps its promise -/
/-- names: the parameters first -/
structure FnScope (N P : List Str) (sc : Scope) : Prop where
  kind : sc.kind = .function
  co : sc.isCoroutine = false
  gen : sc.isGenerator = false
  nd : N.Nodup
  pre : N.take P.length = P
  par : ∀ x ∈ P, sc.names.lookup x = some .local ∨ sc.names.lookup x = some .cell
  nofree : ∀ y ∈ sc.names, y.2 ≠ .free

theorem bindL_out {kindOf : Str → Option NameKind} {x : Str} : ∀ {binds : List (Str × Value)} {m : Str → Option Value}, (∀ v, (x, v) ∉ binds) → bindL kindOf binds m x = m x
  | [], _, _ => rfl
  | (n, v) :: r, m, h => by
    unfold bindL
    rw [bindL_out fun w hw => h w (List.mem_cons_of_mem _ hw)]
    split
    · have : x ≠ n := by rintro rfl; exact h v List.mem_cons_self
      simp [this]
    · rfl
theorem bindC_out {kindOf : Str → Option NameKind} {x : Str} : ∀ {binds : List (Str × Value)} {m : Str → Option Value}, (∀ v, (x, v) ∉ binds) → bindC kindOf binds m x = m x
  | [], _, _ => rfl
  | (n, v) :: r, m, h => by
    unfold bindC
    rw [bindC_out fun w hw => h w (List.mem_cons_of_mem _ hw)]
    split
    · rfl
    · have : x ≠ n := by rintro rfl; exact h v List.mem_cons_self
      simp [this]
theorem bindL_get {kindOf : Str → Option NameKind} {x : Str} {v : Value} : ∀ {P : List Str} {vs : List Value} {i : Nat} {m : Str → Option Value}, P.Nodup → P[i]? = some x → vs[i]? = some v → kindOf x = some .local →
    bindL kindOf (P.zip vs) m x = some v
  | [], _, _, _, _, h, _, _ => by simp at h
  | _ :: _, [], _, _, _, _, h, _ => by simp at h
  | p :: P, w :: vs, 0, m, nd, h1, h2, hk => by
    simp at h1 h2; subst h1; subst h2
    show bindL kindOf ((p, w) :: P.zip vs) m p = _
    unfold bindL
    rw [bindL_out fun v hv => (List.nodup_cons.mp nd).1 (List.of_mem_zip hv).1, if_pos hk]
    simp
  | p :: P, w :: vs, i + 1, m, nd, h1, h2, hk => by
    show bindL kindOf ((p, w) :: P.zip vs) m x = _
    unfold bindL
    exact bindL_get (i := i) (List.nodup_cons.mp nd).2 (by simpa using h1) (by simpa using h2) hk
theorem bindC_get {kindOf : Str → Option NameKind} {x : Str} {v : Value} : ∀ {P : List Str} {vs : List Value} {i : Nat} {m : Str → Option Value}, P.Nodup → P[i]? = some x → vs[i]? = some v → kindOf x ≠ some .local →
    bindC kindOf (P.zip vs) m x = some v
  | [], _, _, _, _, h, _, _ => by simp at h
  | _ :: _, [], _, _, _, _, h, _ => by simp at h
  | p :: P, w :: vs, 0, m, nd, h1, h2, hk => by
    simp at h1 h2; subst h1; subst h2
    show bindC kindOf ((p, w) :: P.zip vs) m p = _
    unfold bindC
    rw [bindC_out fun v hv => (List.nodup_cons.mp nd).1 (List.of_mem_zip hv).1, if_neg hk]
    simp
  | p :: P, w :: vs, i + 1, m, nd, h1, h2, hk => by
    show bindC kindOf ((p, w) :: P.zip vs) m x = _
    unfold bindC
    exact bindC_get (i := i) (List.nodup_cons.mp nd).2 (by simpa using h1) (by simpa using h2) hk

/-- the names' values at the entry -/
def start (N : List Str) (vs : List V) : St := vs.map some ++ List.replicate (N.length - vs.length) none

/-- the context of a def's body, at its entry; an exception leaves the frame, then lies as CX says -/
def cxOf (CX : CXT) (P : Program) (w : World) (K : PySem.W.Frag) (mg : Str → Option Value) (base : Heap) (N : List Str) (qual : Str) (scope : Scope) (f : Addr) (cd : Value) (A : Around) (outer : List Env) (s : Shared) (H : Hp) (E : XK) : Cx where
  prog := P
  w := w
  K := K
  mg := mg
  base := base
  A := A.deeper (envOfC qual scope s.heap.objs.size f cd)
  N := N
  s₀ := s
  H₀ := H
  env := envOfC qual scope s.heap.objs.size f cd
  outer := outer
  stack := envOfC qual scope s.heap.objs.size f cd :: outer
  ex := []
  calm := true
  fn := fun _ => true
  pn := []
  xe := fun e s' => wpAny (model P w) (A.deeper (envOfC qual scope s.heap.objs.size f cd)) (leaving (envOfC qual scope s.heap.objs.size f cd) e) (fun _ s'' => CX outer H s E e s'') (fun e' s'' => CX outer H s E e' s'') s'

theorem cell_has {sc : Scope} {n : Nat} {x : Str} (h : sc.names.lookup x = some .cell) : ∃ c, (cellsFrom n sc.names []).lookup x = some c := by
  have q := PySem.W.cellsFrom_some sc.names n [] (.inl h)
  exact Option.isSome_iff_exists.mp q

theorem inv_start {CX : CXT} {P : Program} {w : World} {K : PySem.W.Frag} {mg : Str → Option Value} {base : Heap} {N ps : List Str} {qual : Str} {scope : Scope} {f : Addr} {cd : Value} {A : Around} {outer : List Env} {s s1 : Shared} {H : Hp} {E : XK} {us : List Value} {vs : List V}
    (S : FnScope N ps scope) (hd : A.handled = none) (e0 : Env0 P w K mg base A outer s H) (hl : vs.length = ps.length) (r : Vals vs us)
    (x : InCallC s s.heap.objs.size (bindL (envOfC qual scope s.heap.objs.size f cd).kindOf (ps.zip us) fun _ => none) (cellsFrom (s.heap.objs.size + 1) scope.names []) (bindC (envOfC qual scope s.heap.objs.size f cd).kindOf (ps.zip us) fun _ => none) s1) :
    Inv (cxOf CX P w K mg base N qual scope f cd A outer s H E) [] (start N vs) H s1 := by
  have hpl : ps.length ≤ N.length := by have := congrArg List.length S.pre; rw [List.length_take] at this; omega
  obtain ⟨h1, tk, rfl, hk⟩ := x.done
  have noA : ∀ b : Addr, b ∉ (cxOf CX P w K mg base N qual scope f cd A outer s H E).ex := fun b z => absurd (show b ∈ ([] : List Addr) from z) (by simp)
  refine ⟨⟨e0.mod, S.kind, rfl, rfl, Nat.le_refl _, fun y z c h1 h2 => ?_, fun y hy => ?_, fun y c _ h => ?_, fun _ => hd, Around.frames_deeper e0.frames, .inr ⟨rfl, rfl⟩, fun b z => absurd z (noA b), e0.bs, e0.bsz, fun b _ _ => noA b, fun b z => absurd z (noA b), e0.funs, e0.frf⟩,
    rfl, e0.bare, Un.kept hk, ⟨_, x.toInCall.ns, fun i y v h1 h2 h3 => ?_⟩, fun y c h => ⟨_, x.cell y c h⟩, e0.hok.fresh (Nat.le_refl _), fun y c h => ?_, fun p hp => absurd (show p ∈ ([] : List (Addr × Obj)) from hp) (by simp), e0.hok.kept hk, ?_⟩
  · exact name_of_addr x.apart (PySem.mem_of_lookup h1) (PySem.mem_of_lookup h2)
  · have hy : scope.names.lookup y = some .cell ∨ scope.names.lookup y = some .free := hy
    rcases hy with hy | hy
    · exact cell_has hy
    · exact absurd rfl (S.nofree _ (PySem.mem_of_lookup hy))
  · exact Nat.le_of_lt (x.above y c (PySem.mem_of_lookup h))
  · have hi : i < vs.length := by
      unfold start at h2
      by_cases hi : i < vs.length
      · exact hi
      · rw [List.getElem?_append_right (by simpa using hi)] at h2
        rw [List.getElem?_replicate] at h2
        split at h2 <;> cases h2
    have ha : vs[i]? = some v := by
      unfold start at h2
      rw [List.getElem?_append_left (by simpa using hi), List.getElem?_map] at h2
      cases e : vs[i]? with
      | none => rw [e] at h2; cases h2
      | some a => rw [e] at h2; cases h2; rfl
    obtain ⟨u, hu, rv⟩ := r.get ha
    have hp : ps[i]? = some y := by
      rw [← S.pre, List.getElem?_take_of_lt (by omega)]; exact h1
    have ndP : ps.Nodup := by rw [← S.pre]; exact S.nd.sublist (List.take_sublist _ _)
    refine ⟨u, rv, ?_⟩
    rcases S.par y (List.mem_of_getElem? hp) with k | k
    · exact .inl ⟨k, bindL_get ndP hp hu k⟩
    · obtain ⟨c, e⟩ := cell_has (n := s.heap.objs.size + 1) k
      refine .inr ⟨.inl k, c, e, ?_⟩
      have q := x.cell y c e
      rw [bindC_get ndP hp hu (by show scope.names.lookup y ≠ _; rw [k]; decide)] at q
      exact q
  · exact e0.hok.fresh (Nat.le_of_lt (x.above y c (PySem.mem_of_lookup h)))
  · unfold start
    show _ = N.length
    rw [List.length_append, List.length_map, List.length_replicate]
    omega

/-- THE RULE: a def (or a method) of the text, by its body. The body's reading t is chosen for each entry; it is run at the parameters' values -/
theorem fn_of {CX : CXT} {P : Program} {w : World} {K : PySem.W.Frag} {mg : Str → Option Value} {base : Heap} {k : Nat} {f : Addr} {name qual : Str} {params : Arguments} {body : List Stmt} {scope : Scope} {dV kV doc pm cdv ct oc : Value} {an od : Option Addr}
    {osl : Array (Option Value)} {N ps : List Str} {sp : Sp} (lk : K.lookup f = some ⟨oc, od, .func (PySem.W.fnOf name qual params body scope dV kV doc pm an cdv ct), osl⟩) (hcd : PySem.W.codeIn K cdv qual = true) (S : FnScope N ps scope)
    (len : ∀ vs H Q E, sp vs H Q E → vs.length = ps.length)
    (hbody : ∀ (A : Around) (outer : List Env) (s : Shared) (H : Hp) (vs : List V) (Q : VK) (E : XK), Room k (A.deeper (envOfC qual scope s.heap.objs.size f cdv)) → sp vs H Q E →
      ∃ t, PSs (cxOf CX P w K mg base N qual scope f cdv A outer s H E) body t ∧ t { nx := fun _ H' => Q .non H', rt := Q } (start N vs) H) :
    FnOk P w K mg base CX (k + 1) f (PySem.W.fnOf name qual params body scope dV kV doc pm an cdv ct) ps sp := by
  refine ⟨len, fun A outer s H args us vs Q E hr e0 hb r hsp => ?_⟩
  have hl := len _ _ _ _ hsp
  have KX : K.In s.heap := e0.mod.kin.keeps fun b o e => (e0.bs b o e).1
  have lim : s.heap.NoLimit := e0.mod.nolimit.keeps fun b o e => (e0.bs b o e).1
  have hkind : ∀ y ∈ ps.zip us, scope.names.lookup y.1 = some .local ∨ (scope.names.lookup y.1 = some .cell ∧ ((cellsFrom (s.heap.objs.size + 1) scope.names []).lookup y.1).isSome = true) := fun ⟨n, v⟩ hy => by
    rcases S.par n (List.of_mem_zip hy).1 with q | q
    · exact .inl q
    · exact .inr ⟨q, PySem.W.cellsFrom_some _ _ _ (.inl q)⟩
  refine codeAny_call_function hr.depth (KX _ _ lk) rfl S.co S.gen rfl (PySem.W.codeRec_of KX hcd) (hb _ _ _ _ ?_)
  refine wpAny_newFunctionEnv_cells S.kind hkind fun env he s1 x => ?_
  subst he
  refine ⟨lim.keeps x.toInCall.keep, codeAny_func ?_⟩
  obtain ⟨t, ht, hq⟩ := hbody A outer s H vs Q E (hr.deeper _) hsp
  have I : Inv (cxOf CX P w K mg base N qual scope f cdv A outer s H E) [] (start N vs) H s1 := inv_start S hr.hd e0 hl r x
  refine wpAny_mono (ht [] s1 (start N vs) H _ I hq) (fun fl s' hs => ?_) fun e s' hs => hs
  have fin : ∀ {σ' : St} {H' : Hp} {v : V} {u : Value}, Inv (cxOf CX P w K mg base N qual scope f cdv A outer s H E) [] σ' H' s' → RelV v u → Q v H' → CE outer P w H s Q u s' :=
    fun {σ' H' v u} J rv q => ⟨v, H', J.os, J.bare, J.base, J.hok, rv, q⟩
  cases fl with
  | ret u =>
    obtain ⟨v, σ', H', J, rv, q⟩ := hs
    exact fin J rv q
  | next =>
    obtain ⟨σ', H', J, q⟩ := hs
    exact fin (v := V.non) (u := Value.none) J rfl q
  | brk =>
    obtain ⟨_, _, _, q⟩ := hs
    exact False.elim q
  | cont =>
    obtain ⟨_, _, _, q⟩ := hs
    exact False.elim q
end L2

namespace L2
open PySem PySem.Spec PyProof.Rows
section
variable {X : Cx} {x : Str} {p pos : Pos} {e : Expr} {es : List Expr} {t : TA} {id T : String} {r : List V → Hp → VK → Prop}

def tCB (r : List V → Hp → VK → Prop) (t : TA) : TE := fun σ H Q => t σ H fun vs H1 => r vs H1 Q
/-- f(e, ..), f a built-in function -/
theorem pe_callB (hc : CallR X (.builtin id) r) (hg : Gl X x) (hm : X.mg x = none) (hv : bootBuiltins x = some (.builtin id)) (ha : PA X (e :: es) t) (hn : x ≠ "__name__" := by decide) (hdb : (x == ("__debug__" : Str)) = false := by decide)
    (he : starEach (e :: es) X.env = (false, eval e X.env) :: starEach es X.env := by rfl) (hpl : (backTo pos (starEach es X.env)).any (·.1) = false := by rfl) : PE X (.Call (.Name x p) (e :: es) [] pos) (tCB r t) := by
  intro pins s σ H Q I h
  refine wpAny_Call_Name_kw (ld_blt I hg hm hv ?_ hn hdb)
  exact PyProof.Rows.callWith_builtin1 (thn (ha pos pins s σ H _ I h) fun us s1 ⟨vs, H1, I1, r1, q1⟩ => hc pins s1 σ H1 vs us Q I1 r1 q1) he hpl
/-- T(e, ..), T a built-in type -/
theorem pe_callTy (hc : CallR X (.type T) r) (hg : Gl X x) (hm : X.mg x = none) (hv : bootBuiltins x = some (.type T)) (ha : PA X (e :: es) t) (hn : x ≠ "__name__" := by decide) (hdb : (x == ("__debug__" : Str)) = false := by decide)
    (he : starEach (e :: es) X.env = (false, eval e X.env) :: starEach es X.env := by rfl) (hpl : (backTo pos (starEach es X.env)).any (·.1) = false := by rfl) : PE X (.Call (.Name x p) (e :: es) [] pos) (tCB r t) := by
  intro pins s σ H Q I h
  refine wpAny_Call_Name_kw (ld_blt I hg hm hv ?_ hn hdb)
  exact PyProof.Rows.callWith_type1 (thn (ha pos pins s σ H _ I h) fun us s1 ⟨vs, H1, I1, r1, q1⟩ => hc pins s1 σ H1 vs us Q I1 r1 q1) he hpl
end
end L2

namespace HT
open PySem PyProof.Rows

/-- t < u of tuples of ints -/
def lexLt : List Int → List Int → Bool
  | [], [] => false
  | [], _ :: _ => true
  | _ :: _, [] => false
  | x :: xs, y :: ys => if x = y then lexLt xs ys else decide (x < y)
section
open PySem.SeqAt
open PySem.AutoSeq1 (wpAny_loadPart')
open PySem.MeetsSeq PySem.MeetsSeq2 PySem.MeetsSeq3

end

section
variable {prog : Program} {w : World} {A : Around} {E : Value → Shared → Prop} {s : Shared}

/-- t + u, t not empty -/
theorem cat_tup {t b : Addr} {vs ws : List Value} {Q : Value → Shared → Prop} (ht : IsTup s.heap t vs.toArray) (hb : IsTup s.heap b ws.toArray) (hv : vs ≠ [])
    (h1 : ws = [] → Q (.ref t) s) (h2 : ws ≠ [] → Q (.ref s.heap.objs.size) { s with heap := s.heap.push { cls := .type "tuple", data := .seq (vs ++ ws).toArray } })
    (hsz : vs.length + ws.length ≤ sizeLine) : wpAny (model prog w) A (binaryOp .Add (.ref t) (.ref b)) Q E s := by
  obtain ⟨⟨cls, dd, data, sl⟩, ho, hc, n, hd⟩ := id ht
  obtain ⟨⟨cls2, dd2, data2, sl2⟩, ho2, hc2, n2, hd2⟩ := id hb
  simp only at hc hd hc2 hd2
  subst hc hd hc2 hd2
  have e : vs.toArray ++ ws.toArray = (vs ++ ws).toArray := by simp
  by_cases hw : ws = []
  · exact concat_meets ⟨_, ho, rfl⟩ ⟨_, ho2, rfl⟩ noFill_tuple_add seq_tuple_add PySem.F.slot_tuple_add PySem.F.entry_tuple_add (PySem.F.args_tuple_add_2 _ _)
      (tuple_addW1 t b vs.toArray ws.toArray n n2 dd dd2 sl sl2 (by simpa using hv) (by simp [hw])) ⟨ho, ho2, h1 hw⟩
  · refine concat_meets ⟨_, ho, rfl⟩ ⟨_, ho2, rfl⟩ noFill_tuple_add seq_tuple_add PySem.F.slot_tuple_add PySem.F.entry_tuple_add (PySem.F.args_tuple_add_2 _ _)
      (tuple_addW2 t b vs.toArray ws.toArray n n2 dd dd2 sl sl2 (by simpa using hv) (by simpa using hw) (by rw [List.size_toArray, List.size_toArray]; exact hsz)) ⟨ho, ho2, ?_⟩
    rw [e]
    exact h2 hw

/-! ### t[a:b], not the whole -/
/-- a slice's bound as a place among n (d where it is left out) -/
def sIx (n d : Nat) : Option Int → Nat
  | none => d
  | some v => if v < 0 then (v + (n : Int)).toNat else min v.toNat n
theorem sIx_nat (n d k : Nat) : sIx n d (some (k : Int)) = min k n := by
  show (if (k : Int) < 0 then ((k : Int) + (n : Int)).toNat else min (k : Int).toNat n) = min k n
  rw [if_neg (by omega), Int.toNat_natCast]
end
end HT

namespace L2
open PySem PySem.Spec PyProof.Rows

/-! ### the parts of a slice -/
abbrev TO := St → Hp → (Option Int → Hp → Prop) → Prop
/-- a slice's part (left out, or an int) -/
def PO (X : Cx) (e : Option Expr) (t : TO) : Prop :=
  ∀ (pins : List (Addr × Obj)) (s : Shared) (σ : St) (H : Hp) (Q : Option Int → Hp → Prop), Inv X pins σ H s → t σ H Q →
    wpAny (model X.prog X.w) X.A (evalPart e X.env) (fun u s' => ∃ o H', Inv X pins σ H' s' ∧ IsPart u o ∧ Q o H') X.xe s
def tNoPart : TO := fun _ H Q => Q none H
def tPart (t : TE) : TO := fun σ H Q => t σ H fun x H1 => ∃ i, x = .int i ∧ Q (some i) H1

section
variable {X : Cx} {e : Expr} {te : TE} {lo hi : Option Expr} {tl th : TO} {pos p2 : Pos}

theorem po_some (h : PE X e te) : PO X (some e) (tPart te) := by
  intro pins s σ H Q I hw
  rw [evalPart_some]
  refine thn (h pins s σ H _ I hw) fun u s1 ⟨x, H1, I1, r1, q1⟩ => ?_
  obtain ⟨i, rfl, q⟩ := q1
  obtain ⟨t, rfl⟩ := r1
  exact ⟨some i, H1, I1, .int i t, q⟩

/-- what a slice of a value is, by values: the slice object stands at sl -/
def SlR (X : Cx) (r : V → Option Int → Option Int → Hp → VK → Prop) : Prop :=
  ∀ (pins : List (Addr × Obj)) (s : Shared) (σ : St) (H : Hp) (x : V) (v vl vu : Value) (lo hi : Option Int) (sl : Addr) (Q : VK), Inv X pins σ H s → RelV x v → s.heap.IsSliceOf sl vl vu .none → IsPart vl lo → IsPart vu hi → r x lo hi H Q →
    ∃ T id, typeLookup (.type T) "__getitem__" = pure (some (.builtin id)) ∧ s.TypeIs v T ∧ wpAny (model X.prog X.w) X.A (getItem v (.ref sl)) (EP X pins σ Q) X.xe s
def tSl (r : V → Option Int → Option Int → Hp → VK → Prop) (te : TE) (tl th : TO) : TE := fun σ H Q => te σ H fun x H1 => tl σ H1 fun l H2 => th σ H2 fun u H3 => r x l u H3 Q
/-- a[lo:hi], any a -/
theorem pe_slice {r : V → Option Int → Option Int → Hp → VK → Prop} (hr : SlR X r) (he : PE X e te) (hl : PO X lo tl) (hu : PO X hi th) : PE X (.Subscript e (.Slice lo hi none p2) pos) (tSl r te tl th) := by
  intro pins s σ H Q I h
  refine Subscript_ (thn (he pins s σ H _ I h) fun v s1 ⟨x, H1, I1, r1, q1⟩ => ?_)
  refine wpAny_Slice (thn (hl pins s1 σ H1 _ I1 q1) fun vl s2 ⟨l, H2, I2, pl, q2⟩ => thn (hu pins s2 σ H2 _ I2 q2) fun vu s3 ⟨u, H3, I3, pu, q3⟩ => ?_)
  rw [evalPart_none]
  refine wpAny_pure ?_
  have I4 : Inv X pins σ H3 { s3 with heap := s3.heap.push { cls := .type "slice", data := .fields #[vl, vu, .none] } } := I3.kept (t' := s3.toks) fun b ob q => Heap.get?_push_of_some _ q
  obtain ⟨T, id, hT, ht, hg⟩ := hr pins { s3 with heap := s3.heap.push { cls := .type "slice", data := .fields #[vl, vu, .none] } } σ H3 x v vl vu l u s3.heap.objs.size Q I4 r1 (Heap.IsSliceOf.new ..) pl pu q3
  show wpAny (model X.prog X.w) X.A (subscriptTail e (.Slice lo hi none p2) v (.ref s3.heap.objs.size)) (EP X pins σ Q) X.xe { s3 with heap := s3.heap.push { cls := .type "slice", data := .fields #[vl, vu, .none] } }
  exact tail_any (ops := [.ref s3.heap.objs.size, v]) ht hT hg (by with_unfolding_all rfl)

/-- the items of xs[lo:hi] -/
def cutV (xs : List V) (lo hi : Option Int) : List V := (xs.drop (HT.sIx xs.length 0 lo)).take (HT.sIx xs.length xs.length hi - HT.sIx xs.length 0 lo)
theorem cutV_length (xs : List V) (lo hi : Option Int) : (cutV xs lo hi).length ≤ xs.length := by
  unfold cutV
  rw [List.length_take, List.length_drop]
  omega
/-- t[lo:hi], not the whole of it (the whole would be t itself) -/
def rSlT (K : PySem.W.Frag) : V → Option Int → Option Int → Hp → VK → Prop := fun x lo hi H Q => ∃ a xs, x = .ref a ∧ SqT K H a xs ∧
  ¬ (HT.sIx xs.length 0 lo = 0 ∧ HT.sIx xs.length xs.length hi = xs.length) ∧ ∀ p, H p = none → Q (.ref p) (upd H p (.tup (cutV xs lo hi)))
/-! ### t < u, t + u -/
def rLtT (K : PySem.W.Frag) : R2 := fun x y H Q => ∃ a b ns ms, x = .ref a ∧ y = .ref b ∧ SqT K H a (ns.map V.int) ∧ SqT K H b (ms.map V.int) ∧ Q (.bl (HT.lexLt ns ms)) H
/-- t + u, t not empty: u empty gives t itself -/
def rCatT (K : PySem.W.Frag) : R2 := fun x y H Q => ∃ a b xs ys, x = .ref a ∧ y = .ref b ∧ SqT K H a xs ∧ SqT K H b ys ∧ xs ≠ [] ∧ xs.length + ys.length ≤ sizeLine ∧
  (ys = [] → Q (.ref a) H) ∧ (ys ≠ [] → ∀ p, H p = none → Q (.ref p) (upd H p (.tup (xs ++ ys))))
theorem Vals.nil_iff {xs : List V} {us : List Value} (r : Vals xs us) : us = [] ↔ xs = [] := by
  cases r with
  | nil => simp
  | cons _ _ => simp
theorem op_catT : OpR X (binaryOp .Add) (rCatT X.K) := by
  intro pins s σ H x y v u Q I rx ry h
  obtain ⟨a, b, xs, ys, rfl, rfl, ha, hb, hx, hz, q1, q2⟩ := h
  cases rx
  cases ry
  obtain ⟨its, r1, p1, _⟩ := I.tuple ha
  obtain ⟨its2, r2, p2, _⟩ := I.tuple hb
  refine HT.cat_tup p1 p2 (fun z => hx (r1.nil_iff.mp z)) (fun z => ⟨.ref a, H, I, rfl, q1 (r2.nil_iff.mp z)⟩) (fun z => ?_) (by rw [← r1.length, ← r2.length]; exact hz)
  refine ⟨.ref s.heap.objs.size, _, I.laid (t' := s.toks) (o := .tup (xs ++ ys)) (fun b ob q => Heap.get?_push_of_some _ q) (Nat.le_refl _) ?_, rfl, q2 (fun w => z (r2.nil_iff.mpr w)) _ (I.hok.fresh (Nat.le_refl _))⟩
  exact ⟨by rw [List.length_append]; exact hz, _, r1.append r2, IsTup.new _ _⟩
end
end L2

namespace L2
open PySem PySem.Spec PyProof.Rows

/-! ### places -/
/-- the place that an index of any sign means -/
def ixN (n : Nat) (i : Int) : Option Nat := if 0 ≤ i then (if i < n then some i.toNat else none) else if -(n : Int) ≤ i then some (i + n).toNat else none
def atI {α : Type} (xs : List α) (i : Int) : Option α := (ixN xs.length i).bind fun j => xs[j]?
theorem ixN_seq {n : Nat} {i : Int} {j : Nat} (h : ixN n i = some j) : seqIndex? i n = some j ∧ j < n ∧ -(n : Int) ≤ i ∧ i < n := by
  unfold ixN at h
  by_cases h0 : 0 ≤ i
  · rw [if_pos h0] at h
    by_cases h1 : i < n
    · rw [if_pos h1] at h
      have e : i.toNat = j := Option.some.inj h
      exact ⟨by rw [seqIndex_of h0 h1, e], by omega, by omega, h1⟩
    · rw [if_neg h1] at h; cases h
  · rw [if_neg h0] at h
    by_cases h1 : -(n : Int) ≤ i
    · rw [if_pos h1] at h
      have e : (i + n).toNat = j := Option.some.inj h
      exact ⟨by rw [seqIndex_neg (by omega) h1, e], by omega, h1, by omega⟩
    · rw [if_neg h1] at h; cases h
theorem atI_get {α : Type} {xs : List α} {i : Int} {v : α} (h : atI xs i = some v) : ∃ j, seqIndex? i xs.length = some j ∧ xs[j]? = some v ∧ j < xs.length ∧ -(xs.length : Int) ≤ i ∧ i < xs.length := by
  unfold atI at h
  cases e : ixN xs.length i with
  | none => rw [e] at h; cases h
  | some j =>
    rw [e] at h
    obtain ⟨h1, h2, h3, h4⟩ := ixN_seq e
    exact ⟨j, h1, h, h2, h3, h4⟩
theorem atI_nat {α : Type} {xs : List α} {j : Nat} {v : α} (h : xs[j]? = some v) : atI xs (j : Int) = some v := by
  have hj : j < xs.length := (List.getElem?_eq_some_iff.mp h).1
  have e : ixN xs.length (j : Int) = some j := by
    unfold ixN
    rw [if_pos (by omega), if_pos (by omega)]; simp
  unfold atI; rw [e]; exact h
/-! ### what may be subscripted -/
/-- what stands as an index of a plain subscript -/
def PlainIx (b : Expr) : Prop := ∀ o i, subscripted b false o i = operate [o, i] (getItem o i)
/-- a subscript by values -/
def IxR (X : Cx) (r : R2) : Prop :=
  ∀ (value slice : Expr) (pins : List (Addr × Obj)) (s : Shared) (σ : St) (H : Hp) (x y : V) (v u : Value) (Q : VK), Inv X pins σ H s → RelV x v → RelV y u → r x y H Q →
    subscripted slice false v u = operate [v, u] (getItem v u) → wpAny (model X.prog X.w) X.A (subscriptTail value slice v u) (EP X pins σ Q) X.xe s
/-- a call of a builtin's method by values: the receiver, the arguments -/
def MtR (X : Cx) (id : String) (r : V → List V → Hp → VK → Prop) : Prop :=
  ∀ (pins : List (Addr × Obj)) (s : Shared) (σ : St) (H : Hp) (x : V) (xs : List V) (v : Value) (us : List Value) (Q : VK), Inv X pins σ H s → RelV x v → Vals xs us → r x xs H Q →
    wpAny (model X.prog X.w) X.A (call (.builtin id) (v :: us)) (EP X pins σ Q) X.xe s
section
variable {X : Cx} {a b : Expr} {ta tb : TE} {pos : Pos}
/-- a[b] -/
theorem pe_ix {r : R2} (hr : IxR X r) (ha : PE X a ta) (hb : PE X b tb) (hs : PlainIx b) : PE X (.Subscript a b pos) (tOp r ta tb) := by
  intro pins s σ H Q I h
  exact Subscript_ (binT ha hb I h fun v u s2 x y H2 I2 rx ry q => hr a b pins s2 σ H2 x y v u Q I2 rx ry q (hs _ _))

def rIxL (K : PySem.W.Frag) : R2 := fun x y H Q => ∃ p xs i v, x = .ref p ∧ y = .int i ∧ SqL K H p xs ∧ atI xs i = some v ∧ Q v H
def rIxT (K : PySem.W.Frag) : R2 := fun x y H Q => ∃ p xs i v, x = .ref p ∧ y = .int i ∧ SqT K H p xs ∧ atI xs i = some v ∧ Q v H
def rIxS : R2 := fun x y H Q => ∃ z i c, x = .str z ∧ y = .int i ∧ z.length ≤ sizeLine ∧ atI z.cps.toList i = some c ∧ Q (.str ⟨#[c]⟩) H
theorem ix_list : IxR X (rIxL X.K) := by
  intro value slice pins s σ H x y v u Q I rx ry h hs
  obtain ⟨p, xs, i, z, rfl, rfl, hq, he, q⟩ := h
  cases rx
  obtain ⟨t, rfl⟩ := ry
  obtain ⟨its, r, pl, hz⟩ := I.list hq
  obtain ⟨j, h1, h2, h3, h4, h5⟩ := atI_get he
  obtain ⟨w, ew, rw'⟩ := r.get h2
  have hl := r.length
  have hn := line63
  have fin : EP X pins σ Q w s := ⟨z, H, I, rw', q⟩
  by_cases h0 : 0 ≤ i
  · have hj : i.toNat = j := by
      rw [seqIndex_of h0 h5] at h1
      exact Option.some.inj h1
    exact item_listR pl.isList h0 (by omega) (by rw [hj]; simpa using ew) fin hs
  · have hj : (i + (its.toArray.size : Int)).toNat = j := by
      rw [seqIndex_neg (by omega) h4] at h1
      rw [List.size_toArray, ← hl]
      exact Option.some.inj h1
    exact subscriptTail_builtinR (x := w) pl.isList.typeIs slot_list_getitem.lookup
      (wpAny_getItem_list_neg (Q := fun r s' => r = w ∧ EP X pins σ Q r s') pl.isList (by omega) (by rw [List.size_toArray] <;> omega) (by omega) (by rw [hj]; simpa using ew) ⟨rfl, fin⟩) hs
theorem ix_tup : IxR X (rIxT X.K) := by
  intro value slice pins s σ H x y v u Q I rx ry h hs
  obtain ⟨p, xs, i, z, rfl, rfl, hq, he, q⟩ := h
  cases rx
  obtain ⟨t, rfl⟩ := ry
  obtain ⟨its, r, pl, hz⟩ := I.tuple hq
  obtain ⟨j, h1, h2, h3, h4, h5⟩ := atI_get he
  obtain ⟨w, ew, rw'⟩ := r.get h2
  have hl := r.length
  have hn := line63
  have fin : EP X pins σ Q w s := ⟨z, H, I, rw', q⟩
  exact subscriptTail_builtinR (x := w) pl.typeIs slot_tuple_getitem.lookup
    (getItem_tuple (j := j) (Q := fun r s' => r = w ∧ EP X pins σ Q r s') pl (by omega) (by omega) (by rw [List.size_toArray, ← hl]; exact h1) (by simpa using ew) ⟨rfl, fin⟩) hs
theorem ix_str : IxR X rIxS := by
  intro value slice pins s σ H x y v u Q I rx ry h hs
  obtain ⟨z, i, c, rfl, rfl, hz, he, q⟩ := h
  obtain ⟨t, rfl⟩ := rx
  obtain ⟨t', rfl⟩ := ry
  obtain ⟨j, h1, h2, h3, h4, h5⟩ := atI_get he
  have hl : z.cps.toList.length = z.length := by simp [Str.length]
  rw [hl] at h1 h4 h5
  have hn := line63
  exact tail_any (typeIs_str s z t) slot_str_getitem.lookup (getItem_str (c := c) (by
    have e1 : decide (i < -(2 ^ 63 : Int)) = false := decide_eq_false (by omega)
    have e2 : decide (i ≥ 2 ^ 63) = false := decide_eq_false (by omega)
    rw [e1, e2, Bool.or_false]) (by rw [h1]; simpa using h2) ⟨.str ⟨#[c]⟩, H, I.tok _, ⟨_, rfl⟩, q⟩) hs
/-- list, tuple or str -/
def rIx (K : PySem.W.Frag) : R2 := fun x y H Q => rIxL K x y H Q ∨ rIxT K x y H Q ∨ rIxS x y H Q
/-! ### xs[i] = v, any sign -/
def rSetL : V → V → V → Hp → (Hp → Prop) → Prop := fun o i v H Q => ∃ p xs k j, o = .ref p ∧ i = .int k ∧ H p = some (.lst xs) ∧ ixN xs.length k = some j ∧ Q (upd H p (.lst (xs.set j v)))
/-! ### slices -/
theorem slice_bounds (lo hi : Option Int) (n : Nat) : (sliceBounds lo hi none n).1 = ((HT.sIx n 0 lo : Nat) : Int) ∧ (sliceBounds lo hi none n).2.1 = ((HT.sIx n n hi : Nat) : Int) ∧ (sliceBounds lo hi none n).2.2 = 1 := by
  refine ⟨?_, ?_, rfl⟩
  · cases lo with
    | none => simp [sliceBounds, HT.sIx]
    | some i =>
      simp only [sliceBounds, HT.sIx, Option.getD_none, show (1 : Int) > 0 by decide, if_true]
      by_cases h : i < 0
      · simp only [h, if_true] <;> omega
      · simp only [h, if_false] <;> omega
  · cases hi with
    | none => simp [sliceBounds, HT.sIx]
    | some i =>
      simp only [sliceBounds, HT.sIx, Option.getD_none, show (1 : Int) > 0 by decide, if_true]
      by_cases h : i < 0
      · simp only [h, if_true] <;> omega
      · simp only [h, if_false] <;> omega
theorem slicePick_cut (its : List Value) (lo hi : Option Int) : slicePick its.toArray lo hi none = ((its.drop (HT.sIx its.length 0 lo)).take (HT.sIx its.length its.length hi - HT.sIx its.length 0 lo)).toArray := by
  obtain ⟨h1, h2, h3⟩ := slice_bounds lo hi its.toArray.size
  unfold slicePick
  rw [h1, h2, h3]
  simp only [sliceRange_one, pick_run, List.size_toArray] <;> rfl
/-- xs[lo:hi] of a list: a new list -/
def rSlL (K : PySem.W.Frag) : V → Option Int → Option Int → Hp → VK → Prop := fun x lo hi H Q => ∃ a xs, x = .ref a ∧ SqL K H a xs ∧ ∀ p, H p = none → Q (.ref p) (upd H p (.lst (cutV xs lo hi)))
theorem sl_list : SlR X (rSlL X.K) := by
  intro pins s σ H x v vl vu lo hi sl Q I rx hs pl pu h
  obtain ⟨a, xs, rfl, hx, q⟩ := h
  cases rx
  obtain ⟨its, r, ht, hz⟩ := I.list hx
  have hlen := r.length
  refine ⟨"list", _, slot_list_getitem.lookup, ht.isList.typeIs, ?_⟩
  refine wpAny_getItem_list_slice ht.isList hs pl pu .none (by simp) ?_ (by rw [List.size_toArray] <;> omega)
  rw [slicePick_cut, ← hlen]
  refine ⟨.ref s.heap.objs.size, _, I.laid (t' := s.toks) (o := .lst (cutV xs lo hi)) (fun b ob q => Heap.get?_push_of_some _ q) (Nat.le_refl _) ?_, rfl, q _ (I.hok.fresh (Nat.le_refl _))⟩
  exact ⟨Nat.le_trans (cutV_length xs lo hi) hz, _, 0, (r.drop (HT.sIx xs.length 0 lo)).take (HT.sIx xs.length xs.length hi - HT.sIx xs.length 0 lo), Heap.get?_push_size _ rfl⟩

/-! ### in, not in: flat items -/
def flatV : V → Bool
  | .non => true
  | .bl _ => true
  | .int _ => true
  | .str _ => true
  | _ => false
/-- == of flat values -/
def eqV : V → V → Bool
  | .non, .non => true
  | .bl a, .bl b => a == b
  | .bl a, .int b => (if a then 1 else 0) == b
  | .int a, .bl b => a == (if b then 1 else 0)
  | .int a, .int b => a == b
  | .str a, .str b => a == b
  | _, _ => false
/-- the items' answers, read off the values (a value's own answer does not lean on its token) -/
def eqU (x : V) (u : Value) : Bool := match u with
  | .none => eqV .non x
  | .bool b => eqV (.bl b) x
  | .int i _ => eqV (.int i) x
  | .str z _ => eqV (.str z) x
  | _ => false
def inV (x : V) (xs : List V) : Bool := xs.any fun y => eqV y x
/-- x in a list or tuple of flat items -/
def rIn (K : PySem.W.Frag) (neg : Bool) : R2 := fun x y H Q => ∃ p xs, y = .ref p ∧ (SqL K H p xs ∨ SqT K H p xs) ∧ flatV x = true ∧ xs.all flatV = true ∧ Q (.bl (if neg then !inV x xs else inV x xs)) H
/-! ### len, list(x), tuple(x) of any list or tuple that is read -/
theorem call_len_seq : CallR X (.builtin "len") (fun xs H Q => ∃ p ys, xs = [.ref p] ∧ (SqL X.K H p ys ∨ SqT X.K H p ys) ∧ Q (.int ys.length) H) := by
  intro pins s σ H xs us Q I r h
  obtain ⟨p, ys, rfl, hq, q⟩ := h
  obtain ⟨u, rfl, rx⟩ := vals1 r
  cases rx
  have hn := line63
  rcases hq with hq | hq
  · obtain ⟨its, r', pl, hz⟩ := I.list hq
    have hlen := r'.length
    exact Calls.call_len_list pl.isList (by simp only [List.size_toArray] <;> omega) ⟨.int ys.length, H, I.tok _, ⟨s.toks + 1, by rw [List.size_toArray, hlen]⟩, q⟩
  · obtain ⟨its, r', pl, hz⟩ := I.tuple hq
    have hlen := r'.length
    exact len_tuple pl (by simp only [List.size_toArray] <;> omega) ⟨.int ys.length, H, I.tok _, ⟨s.toks + 1, by rw [List.size_toArray, hlen]⟩, q⟩
theorem call_len_str : CallR X (.builtin "len") (fun xs H Q => ∃ z, xs = [.str z] ∧ z.length ≤ sizeLine ∧ Q (.int z.length) H) := by
  intro pins s σ H xs us Q I r h
  obtain ⟨z, rfl, hz, q⟩ := h
  obtain ⟨u, rfl, t, rfl⟩ := vals1 r
  have hn := line63
  exact len_str (by omega) ⟨.int z.length, H, I.tok _, ⟨_, rfl⟩, q⟩
theorem CallR.or {f : Value} {r r' : List V → Hp → VK → Prop} (h : CallR X f r) (h' : CallR X f r') : CallR X f (fun xs H Q => r xs H Q ∨ r' xs H Q) := by
  intro pins s σ H xs us Q I rs q
  rcases q with q | q
  · exact h pins s σ H xs us Q I rs q
  · exact h' pins s σ H xs us Q I rs q
theorem call_list_of : CallR X (.type "list") (fun xs H Q => ∃ p ys, xs = [.ref p] ∧ (SqL X.K H p ys ∨ SqT X.K H p ys) ∧ ∀ l, H l = none → Q (.ref l) (upd H l (.lst ys))) := by
  intro pins s σ H xs us Q I r h
  obtain ⟨p, ys, rfl, hq, q⟩ := h
  obtain ⟨u, rfl, rx⟩ := vals1 r
  cases rx
  have fin : ∀ (its : List Value), Vals ys its → ys.length ≤ sizeLine → ∀ (h' : Heap) (c' : Nat), (∀ b o', s.heap.get? b = some o' → h'.get? b = some o') →
      h'.get? s.heap.objs.size = some { cls := .type "list", dict := none, data := .seq its.toArray c', slots := #[] } → EP X pins σ Q (.ref s.heap.objs.size) { s with heap := h' } := fun its r' hz h' c' kp e =>
    ⟨.ref s.heap.objs.size, _, I.laid (t' := s.toks) kp (Nat.le_refl _) (show ObjOk X.prog X.w _ h' _ (.lst ys) from ⟨hz, its, c', r', e⟩), rfl, q _ (I.hok.fresh (Nat.le_refl _))⟩
  rcases hq with hq | hq
  · obtain ⟨its, r', pl, hz⟩ := I.list hq
    have hlen := r'.length
    obtain ⟨o, ho, hc, n, hd⟩ := pl.isList
    exact call_list_seq p (.inl rfl) ho hc hd (fun h' c' kp e => fin its r' hz h' c' kp e) (by simp only [List.size_toArray] <;> omega)
  · obtain ⟨its, r', pl, hz⟩ := I.tuple hq
    have hlen := r'.length
    obtain ⟨o, ho, hc, n, hd⟩ := pl
    exact call_list_seq p (.inr rfl) ho hc hd (fun h' c' kp e => fin its r' hz h' c' kp e) (by simp only [List.size_toArray] <;> omega)
/-! ### the call of a builtin's method: o.m(..) -/
/-- the value is of that builtin type -/
def tyV (K : PySem.W.Frag) (T : String) (x : V) (H : Hp) : Prop := match x with
  | .str _ => T = "str"
  | .int _ => T = "int"
  | .ref p => (T = "list" ∧ ∃ xs, SqL K H p xs) ∨ (T = "tuple" ∧ ∃ o, K.lookup p = some o ∧ o.cls = .type "tuple" ∧ o.dict = none) ∨
      (T = "dict" ∧ ((∃ kvs, H p = some (.dK kvs)) ∨ ∃ kvs, H p = some (.dT kvs))) ∨ (T = "set" ∧ ∃ S n, H p = some (.set S n))
  | _ => False
theorem tyV_is {pins : List (Addr × Obj)} {σ : St} {H : Hp} {s : Shared} {T : String} {x : V} {v : Value} (I : Inv X pins σ H s) (r : RelV x v) (ty : tyV X.K T x H) :
    s.TypeIs v T ∧ ∀ a, v = .ref a → ∃ ob, s.heap.get? a = some ob ∧ ob.dict = none := by
  cases x with
  | str z =>
    obtain ⟨t, rfl⟩ := r
    cases (show T = "str" from ty)
    exact ⟨typeIs_str s z t, fun _ e => nomatch e⟩
  | int i =>
    obtain ⟨t, rfl⟩ := r
    cases (show T = "int" from ty)
    exact ⟨typeIs_int s i t, fun _ e => nomatch e⟩
  | ref p =>
    cases r
    rcases ty with ⟨rfl, xs, hq⟩ | ⟨rfl, o, hk, hc, hd⟩ | ⟨rfl, hk⟩ | ⟨rfl, S, n, hk⟩
    · obtain ⟨its, _, pl, _⟩ := I.list hq
      refine ⟨pl.isList.typeIs, fun a e => ?_⟩
      cases e
      obtain ⟨o, n, e, c, hd, _⟩ := pl
      exact ⟨o, e, hd⟩
    · refine ⟨⟨o, I.kIn p o hk, hc⟩, fun a e => ?_⟩
      cases e
      exact ⟨o, I.kIn _ o hk, hd⟩
    · have z : ∃ o, s.heap.get? p = some o ∧ o.ExactDict := by
        rcases hk with ⟨kvs, hk⟩ | ⟨kvs, hk⟩
        · obtain ⟨_, _, _, _, o, _, _, e, ex, _⟩ := I.hok p _ hk
          exact ⟨o, e, ex⟩
        · obtain ⟨_, _, _, _, o, _, _, e, ex, _⟩ := I.hok p _ hk
          exact ⟨o, e, ex⟩
      obtain ⟨o, e, ex⟩ := z
      refine ⟨⟨o, e, ex.1⟩, fun a e2 => ?_⟩
      cases e2
      exact ⟨o, e, ex.2.1⟩
    · obtain ⟨o, _, _, _, e, ex, _⟩ := I.hok p _ hk
      refine ⟨⟨o, e, ex.1⟩, fun a e2 => ?_⟩
      cases e2
      exact ⟨o, e, ex.2.1⟩
  | _ => exact False.elim ty
def tBM0 (K : PySem.W.Frag) (T : String) (r : V → List V → Hp → VK → Prop) (to : TE) : TE := fun σ H Q => to σ H fun x H1 => tyV K T x H1 ∧ r x [] H1 Q
def tBM (K : PySem.W.Frag) (T : String) (r : V → List V → Hp → VK → Prop) (to : TE) (t : TA) : TE := fun σ H Q => to σ H fun x H1 => tyV K T x H1 ∧ t σ H1 fun xs H2 => r x xs H2 Q
variable {o e : Expr} {es : List Expr} {to : TE} {t : TA} {name : Str} {apos cpos : Pos} {T id : String} {r : V → List V → Hp → VK → Prop}
theorem pe_bm (pa : PlainAttrs T) (slot : Slot T name id) (hty : typeOf (.builtin id) = pure (.type "method_descriptor")) (hm : MtR X id r) (ho : PE X o to) (ha : PA X (e :: es) t)
    (hbase : attributeBase o name X.env (eval o X.env) = eval o X.env := by rfl)
    (hfew : ((backTo cpos (starEach (e :: es) X.env)).all (fun x => !x.1) && (backToKw cpos (keywordEach [] X.env)).all (fun x => x.1.isSome)
      && decide ((e :: es).length + ([] : List Keyword).length + (if ([] : List Keyword).isEmpty then 0 else 1) < 30)) = true := by rfl)
    (hline : (apos.endLine == cpos.line) = true := by rfl) (hs : starEach (e :: es) X.env = (false, eval e X.env) :: starEach es X.env := by rfl) (hplain : (backTo cpos (starEach es X.env)).any (·.1) = false := by rfl) :
    PE X (.Call (.Attribute o name apos) (e :: es) [] cpos) (tBM X.K T r to t) := by
  intro pins s σ H Q I h
  refine wpAny_Call_method_late hbase hfew hline rfl (thn (ho pins s σ H _ I h) fun v s1 ⟨x, H1, I1, r1, ty, q1⟩ => ?_)
  obtain ⟨h1, h2⟩ := tyV_is I1 r1 ty
  refine ⟨T, id, pa, slot, hty, h1, h2, ?_⟩
  have hA := ha cpos pins s1 σ H1 _ I1 q1
  rw [hs] at hA ⊢
  refine Calls.callWith_builtin (by show (false || (backTo cpos (starEach es X.env)).any (·.1)) = false; rw [hplain] <;> rfl) (Calls.evalArgs_plain ?_)
  exact thn hA fun us s2 ⟨vs, H2, I2, r2, q2⟩ => hm pins s2 σ H2 x vs v us Q I2 r1 r2 q2
/- xs.append(e), list.index on a module's tuple .. are MtR facts of 06m -/
end
end L2

namespace L2
open PySem PySem.Spec PyProof.Rows

def MtM (X : Cx) (id : String) (r : V → List V → Hp → VK → Prop) : Prop :=
  ∀ (pins : List (Addr × Obj)) (s : Shared) (σ : St) (H : Hp) (x : V) (xs : List V) (v : Value) (us : List Value) (Q : VK), Inv X pins σ H s → RelV x v → Vals xs us → r x xs H Q →
    wpAny (model X.prog X.w) X.A (call (.builtin id) (v :: us)) (EP X pins σ Q) X.xe s

/-! ### lists of values -/
theorem Vals.one : ∀ {x : V} {us : List Value}, Vals [x] us → ∃ u, us = [u] ∧ RelV x u
  | _, _, .cons r .nil => ⟨_, rfl, r⟩
section
variable {X : Cx} {pins : List (Addr × Obj)} {σ : St} {H : Hp} {s : Shared} {l b : Addr} {xs ys zs : List V}

/-! ### the two steps: a tracked list is rewritten, a new list is laid -/
theorem Inv.lset {its its' : List Value} {n : Nat} {f : Array Value → Array Value} {t' : Nat} (I : Inv X pins σ H s) (hH : H l = some (.lst xs))
    (e : s.heap.get? l = some { cls := .type "list", data := .seq its.toArray n }) (hf : f its.toArray = its'.toArray) (hv : Vals ys its') (hz : ys.length ≤ sizeLine) :
    Inv X pins σ (upd H l (.lst ys)) { s with heap := s.heap.update l (Obj.mapSeq f), toks := t' } := by
  have q := PySem.IsL.update e f
  rw [hf] at q
  refine I.write (x := l) (e := l) (by rw [hH]; exact trivial) (.inl rfl) (fun b' u hb hu => (Heap.get?_update_other s.heap (Obj.mapSeq f) (Ne.symm hb)).trans hu) ⟨_, q⟩ ?_
  exact ⟨hz, its', _, hv, q⟩
theorem Inv.lnew {its : List Value} {t' : Nat} (I : Inv X pins σ H s) (hv : Vals ys its) (hz : ys.length ≤ sizeLine) :
    Inv X pins σ (upd H s.heap.objs.size (.lst ys)) { s with heap := s.heap.push { cls := .type "list", data := .seq its.toArray }, toks := t' } :=
  I.laid (fun _ _ q => Heap.get?_push_of_some _ q) (Nat.le_refl _) ⟨hz, its, 0, hv, Heap.get?_push_size _ rfl⟩
theorem Inv.fresh (I : Inv X pins σ H s) : H s.heap.objs.size = none := I.hok.fresh (Nat.le_refl _)
theorem Inv.lstM (I : Inv X pins σ H s) (hH : H l = some (.lst xs)) : xs.length ≤ sizeLine ∧ ∃ (its : List Value) (n : Nat), Vals xs its ∧ xs.length = its.length ∧ s.heap.get? l = some { cls := .type "list", data := .seq its.toArray n } := by
  obtain ⟨z, its, n, r, e⟩ := I.hok l _ hH
  exact ⟨z, its, n, r, r.length, e⟩

theorem notLongL {n : Nat} (h : n ≤ sizeLine) : Builtin.List.listTooLong n = false := by
  unfold Builtin.List.listTooLong
  exact decide_eq_false (by omega)
end

section
variable {X : Cx}

/-! ### methods -/
def rAppend : V → List V → Hp → VK → Prop := fun x vs H Q => ∃ l xs y, x = .ref l ∧ vs = [y] ∧ H l = some (.lst xs) ∧ xs.length < sizeLine ∧ Q .non (upd H l (.lst (xs ++ [y])))
theorem mt_append : MtM X "list.append" rAppend := by
  intro pins s σ H x vs v us Q I rx rv h
  obtain ⟨l, xs, y, rfl, rfl, hH, hz, q⟩ := h
  cases rx
  obtain ⟨u, rfl, ru⟩ := rv.one
  obtain ⟨z, its, n, r, hl, e⟩ := I.lstM hH
  refine call_meets F.slot_list_append ⟨_, e, rfl⟩ F.entry_list_append (F.args_list_append_2 _ _) (PySem.list_append l its.toArray n u (by rw [List.size_toArray]; omega)) ⟨e, ?_⟩
  refine ⟨.non, _, I.lset (its' := its ++ [u]) hH e (by simp) (r.append (.cons ru .nil)) ?_, rfl, q⟩
  rw [List.length_append, List.length_singleton]
  omega

def rExtend : V → List V → Hp → VK → Prop := fun x vs H Q => ∃ l b xs zs, x = .ref l ∧ vs = [.ref b] ∧ H l = some (.lst xs) ∧ H b = some (.lst zs) ∧ xs.length + zs.length ≤ sizeLine ∧ Q .non (upd H l (.lst (xs ++ zs)))
def rPop : V → List V → Hp → VK → Prop := fun x vs H Q => ∃ l xs y, x = .ref l ∧ vs = [] ∧ H l = some (.lst xs) ∧ xs[xs.length - 1]? = some y ∧ Q y (upd H l (.lst xs.dropLast))
def rPopAt : V → List V → Hp → VK → Prop := fun x vs H Q => ∃ l xs i k y, x = .ref l ∧ vs = [.int i] ∧ H l = some (.lst xs) ∧ -(2 ^ 63) ≤ i ∧ i < 2 ^ 63 ∧ seqIndex? i xs.length = some k ∧ xs[k]? = some y ∧ Q y (upd H l (.lst (xs.eraseIdx k)))
def rReverse : V → List V → Hp → VK → Prop := fun x vs H Q => ∃ l xs, x = .ref l ∧ vs = [] ∧ H l = some (.lst xs) ∧ Q .non (upd H l (.lst xs.reverse))
def rClear : V → List V → Hp → VK → Prop := fun x vs H Q => ∃ l xs, x = .ref l ∧ vs = [] ∧ H l = some (.lst xs) ∧ Q .non (upd H l (.lst []))
/-! ### list + list, list += list, list * int -/
def rCat : R2 := fun x y H Q => ∃ l b xs zs, x = .ref l ∧ y = .ref b ∧ H l = some (.lst xs) ∧ H b = some (.lst zs) ∧ xs.length + zs.length ≤ sizeLine ∧ ∀ p, H p = none → Q (.ref p) (upd H p (.lst (xs ++ zs)))
theorem op_cat : OpR X (binaryOp .Add) rCat := by
  intro pins s σ H x y v u Q I rx ry h
  obtain ⟨l, b, xs, zs, rfl, rfl, hH, hB, hz, q⟩ := h
  cases rx
  cases ry
  obtain ⟨z, its, n, r, hl, e⟩ := I.lstM hH
  obtain ⟨z2, its2, n2, r2, hl2, e2⟩ := I.lstM hB
  refine PySem.P.add_list e e2 ?_ (by rw [List.size_toArray, List.size_toArray]; omega)
  have ea : its.toArray ++ its2.toArray = (its ++ its2).toArray := by simp
  rw [ea]
  exact ⟨.ref _, _, I.lnew (t' := s.toks) (r.append r2) (by rw [List.length_append]; omega), rfl, q _ I.fresh⟩
/-- a list times an int (a negative one is nothing) -/
def rRep : R2 := fun x y H Q => ∃ l k xs, x = .ref l ∧ y = .int k ∧ H l = some (.lst xs) ∧ -(2 ^ 63) ≤ k ∧ k < 2 ^ 63 ∧ xs.length * k.toNat ≤ sizeLine ∧
  ∀ p, H p = none → Q (.ref p) (upd H p (.lst (List.replicate k.toNat xs).flatten))
/-! ### del xs[i] -/
end

/-! ### xs[a:b] = ys -/
section
variable {prog : Program} {w : World} {A : Around} {E : Value → Shared → Prop} {s : Shared}
theorem bounds_run {a c n : Nat} (hac : a ≤ c) (hc : c ≤ n) : sliceBounds (some (a : Int)) (some (c : Int)) none n = ((a : Int), (c : Int), 1) := by
  simp only [sliceBounds, Option.getD_none]
  have h1 : ¬ ((a : Int) < 0) := by omega
  have h2 : ¬ ((c : Int) < 0) := by omega
  simp only [h1, h2, if_false, show (1 : Int) > 0 by decide, if_true]
  congr 1
  · omega
  · congr 1; omega
set_option maxRecDepth 100000 in
/-- list.__setitem__ with a slice of step one and another list -/
theorem setItem_slice {l b sl : Addr} {items new : Array Value} {n n2 : Nat} {vl vu : Value} {a c : Nat} {Q : Unit → Shared → Prop}
    (e : s.heap.get? l = some { cls := .type "list", data := .seq items n }) (e2 : s.heap.get? b = some { cls := .type "list", data := .seq new n2 }) (hne : l ≠ b)
    (hs : s.heap.IsSliceOf sl vl vu .none) (pl : IsPart vl (some (a : Int))) (pu : IsPart vu (some (c : Int))) (hac : a ≤ c) (hc : c ≤ items.size)
    (hsz : items.size + new.size ≤ sizeLine) (h : Q () { s with heap := s.heap.update l (Obj.mapSeq fun xs => xs.extract 0 a ++ new ++ xs.extract c xs.size) }) :
    wpAny (model prog w) A (setItem (.ref l) (.ref sl) (.ref b)) Q E s := by
  have hl : s.heap.IsList l items := PySem.IsL.isList e
  have hb : s.heap.IsList b new := PySem.IsL.isList e2
  obtain ⟨os, hos, hcs, hds⟩ := id hs
  have hTs : s.TypeIs (.ref sl) "slice" := ⟨os, hos, hcs⟩
  have hstep : ¬ ((rawPart none == rawInt 0) = true) := Bool.false_ne_true
  have hsame : Builtin.List.listSameRef (.ref l) (.ref b) = false := by
    unfold Builtin.List.listSameRef
    exact beq_eq_false_iff_ne.mpr hne
  have hmax : (max (a : Int) (c : Int)).toNat = c := by omega
  have hz' : ((fun xs : Array Value => xs.extract 0 a ++ new ++ xs.extract c xs.size) items).size ≤ sizeLine + 1 := by
    simp only [Array.size_append, Array.size_extract]
    omega
  unfold setItem
  try with_reducible refine wpAny_holding ?_
  first | refine wpAny_bind (wpAny_pure ?_) | skip
  refine wpAny_bind (wpAny_sequenceKey hl.typeIs (by decide) ?_)
  refine wpAny_bind (wpAny_callSpecial?_slot (name := Str.ofString "__setitem__") hl.typeIs slot_list_setitem
    (wpAny_call_entry slot_list_setitem hl.typeIs entry_list_setitem ?_ (args_list_setitem _ _ _)))
  show wpAny _ _ (Builtin.List.listSubscript? (.ref sl) >>= _) _ _ s
  refine wpAny_bind ?_
  unfold Builtin.List.listSubscript?
  refine wpAny_bind (wpAny_specialOf hTs slice_no_index ?_)
  simp only [Option.isNone_none, if_true]
  refine wpAny_pure ?_
  show wpAny _ _ (typeOf (.ref sl) >>= _) _ _ s
  refine wpAny_bind (wpAny_typeOf hTs ?_)
  first
    | rw [if_neg (by decide)]
    | refine PySem.W.KFB.if_not (by decide) ?_
  rw [listSliceParts_eq]
  refine wpAny_bind (wpAny_bind (wpAny_field hos hds (x := .none) rfl (wpAny_bind (wpAny_listPart .none ?_))))
  rw [if_neg hstep]
  refine wpAny_bind (wpAny_field hos hds (x := vl) rfl (wpAny_bind (wpAny_listPart pl ?_)))
  refine wpAny_bind (wpAny_field hos hds (x := vu) rfl (wpAny_bind (wpAny_listPart pu (wpAny_pure ?_))))
  first
    | simp only [hsame, Bool.false_eq_true, if_false]
    | refine PySem.W.KFB.if_not hsame ?_
    | (dsimp only
       rw [if_neg (by rw [hsame]; exact Bool.false_ne_true)])
  refine wpAny_bind (m := Builtin.List.listAllItems (.ref b) "must assign iterable to extended slice") ?_
  unfold Builtin.List.listAllItems
  refine wpAny_bind (wpAny_typeOf hb.typeIs ?_)
  first
    | refine PySem.W.KFB.if_so (by decide) ?_
    | rw [if_pos (by decide)]
    | simp only [beq_self_eq_true, Bool.true_or, if_true]
  unfold Builtin.List.listItems
  refine wpAny_bind (wpAny_seqItems e2 rfl (wpAny_pure ?_))
  refine wpAny_bind (wpAny_bind (wpAny_seqItems e rfl (wpAny_pure ?_)))
  refine wpAny_bind (wpAny_of_eq ((sliceIndices_raw (some (a : Int)) (some (c : Int)) none items.size (by simp)).trans (congrArg (pure : Int × Int × Int → Sem (Int × Int × Int)) (bounds_run hac hc))) ?_)
  show wpAny _ _ (if ((1 : Int) == 1) = true then _ else _) _ _ s
  rw [if_pos (by decide)]
  refine wpAny_bind (wpAny_rule ?_)
  first
    | simp only [notLongL hsz, Bool.false_eq_true, if_false]
    | refine PySem.W.KFB.if_not (notLongL hsz) ?_
  first | refine wpAny_bind (wpAny_pure ?_) | skip
  show wpAny _ _ (updateSeq l (fun xs => xs.extract 0 ((a : Int)).toNat ++ new ++ xs.extract (max (a : Int) (c : Int)).toNat xs.size) >>= _) _ _ s
  rw [hmax, Int.toNat_natCast]
  refine wpAny_bind (wpAny_updateSeq (hz := Nat.le_trans (Nat.le_add_right _ _) hsz) (_hz' := hz') e rfl ?_)
  refine wpAny_bind (wpAny_letGo ?_)
  first
    | exact wpAny_bind (wpAny_pure (wpAny_pure ⟨.none, rfl, wpAny_pure h⟩))
    | exact wpAny_pure ⟨.none, rfl, wpAny_pure h⟩
end

section
variable {X : Cx}
end
end L2

namespace Att
open PySem PySem.W PySem.Calls PyProof.Rows

/-! ### the script -/
theorem ints_of_wellAll {P : Params} {h : Heap} : ∀ (ns : List Int) (vs : List Value), WellAll P h vs (ns.map WData.int) → IntsAre vs ns := by
  intro ns
  induction ns with
  | nil =>
    intro vs w
    rw [List.map_nil] at w
    cases w
    exact .nil
  | cons n ns ih =>
    intro vs w
    rw [List.map_cons] at w
    cases w with
    | cons a b =>
      cases a
      exact .cons _ _ (ih _ b)

theorem script_of {l : OpenLaw} {n : Nat} (hn : l.most = some n) {P : Params} {h : Heap} {args : List WData} {vals : List Value}
    (hpre : l.row.toRowW.claim.pre args = true) (hwl : WellAll P h vals args) :
    ∃ a vs ns, vals = [Value.ref a] ∧ args = [WData.list (ns.map WData.int)] ∧ h.get? a = some { cls := .type "list", data := .seq vs.toArray } ∧ IntsAre vs ns ∧ ns.length ≤ n := by
  have hsh : WShape.hasAll [] args [.list .int] = true := (pre_splitW hpre).1
  have hc : l.pre.holds [] { args := args } = true := (pre_splitW hpre).2
  obtain ⟨d, r, rfl, h1, h2⟩ := hasAllW_cons hsh
  obtain rfl := hasAllW_nil h2
  obtain ⟨xs, rfl, h3⟩ := hasW_list h1
  obtain ⟨ns, rfl⟩ := items_int h3
  have hlen : ns.length ≤ n := by
    unfold OpenLaw.pre at hc
    have h4 : (WTm.not (.lt (.lit (.int (n : Int))) (.len (.arg 0)))).holds [] { args := [.list (ns.map .int)] } = true := by
      have h4 := (holds_andW hc).1
      rw [hn] at h4
      exact h4
    have h5 := condW_of h4 (w_not (w_lt w_lit (w_len_list (w_arg rfl))))
    rw [List.length_map] at h5
    refine Nat.le_of_not_lt fun q => ?_
    have q' : (n : Int) < ((ns.length : Nat) : Int) := by omega
    first
      | (rw [decide_eq_true q'] at h5; exact absurd h5 (by decide))
      | (simp at h5; omega)
  cases hwl with
  | cons w1 w2 =>
    cases w2
    cases w1 with
    | list ho hall => exact ⟨_, _, ns, rfl, rfl, ho, ints_of_wellAll ns _ hall, hlen⟩

theorem post_true (l : OpenLaw) (args : List WData) : l.row.toRowW.claim.post args (.bool true) args = true :=
  postW_of (r := l.row.toRowW) (X := (true == true))
    (show WShape.has [] (.bool true) .bool = true by first | rfl | decide | simp [WShape.has, WShape.arms, WShape.armsAll])
    (show (WTm.eq .res (.lit (.bool true))).value [] { args := args, res := some (.bool true), after := args } = some (.bool (true == true)) from w_eq_bool (w_res rfl) w_lit) rfl

/-! ### the attachment: holds_open's last premise (the goal 'hc' behind k_head) from a wpAny of the law's body -/
/-- the same from a codeAny of the CALL (for a layer whose function contracts speak of calls) -/
theorem attach_call {l : OpenLaw} {n : Nat} {q : Program} {loose : List Str} {XP : (Str → Option Value) → Heap → Prop} {YP : World → Heap → Prop} {d : DefRec}
    (hn : l.most = some n) (hdf : d.params.defaults = [])
    (call : ∀ (w : World) (s₀ s₁ : Shared) (mg mb : Str → Option Value) (fa : Addr) (o : Obj) (pm cd doc : Value) (a : Addr) (vs : List Value) (ns : List Int),
      Ground q loose [] XP w s₀ mg mb s₁.heap → YP w s₁.heap →
      s₁.heap.get? fa = some o → o.data = .func (docDef d.name d.params d.body d.scope pm cd doc) → s₁.heap.CodeRec cd d.name → mg d.name = some (.ref fa) →
      s₁.heap.get? a = some { cls := .type "list", data := .seq vs.toArray } → IntsAre vs ns → ns.length ≤ n → s₁.gens = #[] →
      codeAny (model l.prog w) callerA (.call (.ref fa) ⟨[.ref a], []⟩) (fun r s' => r = .ok (.ret (.bool true)) ∧ OldK s₁.heap s'.heap ∧ s'.os = s₁.os ∧ AllBare s'.gens) s₁) :
    WalkO q loose XP YP l.row.toRowW d [] (fun f vs => PySem.call f vs) := by
  intro w s₀ s₁ mg mb G Y fa o pm cd doc dV kV ho hd hcd hD hmg hg args vals as hpre hlay hrd hwl hlo
  obtain rfl : dV = .none := Dflts.none hD hdf
  obtain rfl : kV = .none := Dflts.noKw hD
  obtain ⟨a, vs, ns, rfl, rfl, hobj, hints, hlen⟩ := script_of hn hpre hwl
  refine enter_call (codeAny_mono (call w s₀ s₁ mg mb fa o pm cd doc a vs ns G Y ho (fd_plain hd) hcd hmg hobj hints hlen hg) fun r s' hq => ?_)
  obtain ⟨rfl, h2, h3, h4⟩ := hq
  exact ⟨.inl ⟨.bool true, .bool true, [], rfl, fun _ => rfl, .bool true, post_true l _, fun _ => ⟨List.Pairwise.nil, fun _ hm => (nomatch hm)⟩⟩, h2, h3, h4⟩

/-! ### rules over ANY heap (no ledger) from facts about the written part K: the library's own take a ledger (News) for what they write -/
section
variable {prog : Program} {w : World} {A : Around} {E : Value → Shared → Prop} {s : Shared} {K : Frag}

/-! the whole heap as the ledger: makes every rule that writes through a ledger a rule over any heap -/
def noObjs (h : Heap) : Heap := { h with objs := #[] }
def ledger (h : Heap) (L d : Addr) : List (Addr × Obj) := (List.range h.objs.size).filterMap fun a => if a = L ∨ a = d then none else (h.get? a).map fun o => (a, o)
end
end Att

namespace L2
open PySem PySem.Spec PyProof.Rows

theorem vals_ints : ∀ {vs : List Value} {ns : List Int}, IntsAre vs ns → Vals (ns.map V.int) vs
  | _, _, .nil => .nil
  | _, _, .cons n t h => .cons ⟨t, rfl⟩ (vals_ints h)

/-- nothing is tracked but the script, known to the object (or it is an object of the module) -/
def Only (H : Hp) : Prop := ∀ b, H b = none ∨ ∃ o xs, H b = some (.frz o (.lst xs))

/-- THE HEAD: the law's promise, at the heap behind the top. F, the promise of the law's def, may use that base is part of the heap (so K.In base, base.Ns mainGlobals mg stand in Mod) -/
theorem law_call {P : Program} {w : World} {K : PySem.W.Frag} {mg mb : Str → Option Value} {CX : CXT} {k : Nat} {fa a : Addr} {fd : FuncData} {x : Str} {sp : Sp} {s₁ : Shared} {vs : List Value} {ns : List Int}
    (KX : K.In s₁.heap) (hns : s₁.heap.Ns mainGlobals mg) (hb : s₁.heap.Ns builtinsNs mb) (hbb : ∀ x : Str, x ≠ "__name__" → mb x = bootBuiltins x) (hlim : s₁.heap.NoLimit) (hg : s₁.gens = #[])
    (ha : s₁.heap.get? a = some { cls := .type "list", data := .seq vs.toArray }) (hi : IntsAre vs ns) (hl : ns.length ≤ sizeLine) (hr : Room k callerA)
    (F : ∀ base : Heap, K.In base → base.Ns mainGlobals mg → FnOk P w K mg base CX k fa fd [x] sp) (hbind : ∀ (s : Shared) (u : Value), BindsTo s fd ⟨[u], []⟩ [(x, u)])
    (hsp : ∀ H : Hp, Only H → SqL K H a (ns.map V.int) → sp [.ref a] H (fun v _ => v = .bl true) fun _ _ _ => False)
    (hCX : ∀ H e s', CX [] H s₁ (fun _ _ _ => False) e s' → False) :
    codeAny (model P w) callerA (.call (.ref fa) ⟨[.ref a], []⟩) (fun r s' => r = .ok (.ret (.bool true)) ∧ OldK s₁.heap s'.heap ∧ s'.os = s₁.os ∧ AllBare s'.gens) s₁ := by
  have rv := vals_ints hi
  have lenV := hi.length
  -- from an abstract heap in which nothing but the script may be tracked
  have core : ∀ H : Hp, Only H → SqL K H a (ns.map V.int) → HOk P w H s₁.heap → (∀ b, H b ≠ none → b = a) → (H a ≠ none → K.lookup a = none) →
      codeAny (model P w) callerA (.call (.ref fa) ⟨[.ref a], []⟩) (fun r s' => r = .ok (.ret (.bool true)) ∧ OldK s₁.heap s'.heap ∧ s'.os = s₁.os ∧ AllBare s'.gens) s₁ := by
    intro H hO hS hok hA hK
    have base_of : ∀ {b : Addr} {o : Obj}, s₁.heap.get? b = some o → H b = none → (hidT s₁.heap H).get? b = some o := fun e n => hidT_get e n
    have noA : ∀ {b : Addr} {o : Obj} {es : Array DictEntry} {ep : Nat}, s₁.heap.get? b = some o → o.data = .dict es ep → H b = none := fun {b o es ep} e d => by
      cases q : H b with
      | none => rfl
      | some u =>
        have e' : b = a := hA b (by rw [q]; simp)
        subst e'
        rw [ha] at e; cases e
        have d' : Data.seq vs.toArray _ = Data.dict es ep := d
        cases d'
    have nsK : ∀ {b : Addr} {m : Str → Option Value}, s₁.heap.Ns b m → (hidT s₁.heap H).Ns b m := fun {b m} ⟨o, es, ep, e, d, r⟩ => ⟨o, es, ep, base_of e (noA e d), d, r⟩
    have hKb : K.In (hidT s₁.heap H) := fun b o e => base_of (KX b o e) (by
      cases q : H b with
      | none => rfl
      | some u =>
        have e' : b = a := hA b (by rw [q]; simp)
        subst e'
        rw [hK (by rw [q]; simp)] at e; cases e)
    have hM : Mod K mg (hidT s₁.heap H) := ⟨hKb, nsK hns, ⟨mb, nsK hb, hbb⟩, let ⟨mc, h1, h2⟩ := hlim; ⟨mc, nsK h1, h2⟩⟩
    have e0 : Env0 P w K mg (hidT s₁.heap H) callerA [] s₁ H := ⟨rfl, hM, fun b o e => of_hidT e, Nat.le_of_eq (hidT_size _ _), trivial, fun b hb => absurd (show b ∈ ([] : List Addr) from hb) (by simp), hok, .of_eq hg⟩
    refine codeAny_mono ((F _ hKb (nsK hns)).run callerA [] s₁ H ⟨[.ref a], []⟩ [.ref a] [.ref a] _ _ hr e0 (hbind s₁ (.ref a)) (.cons rfl .nil) (hsp H hO hS)) fun r s' h => ?_
    cases r with
    | error e => exact (hCX H e s' h).elim
    | ok fl =>
      cases fl with
      | next => exact False.elim h
      | brk => exact False.elim h
      | cont => exact False.elim h
      | ret u =>
        obtain ⟨v, H', os, bare, un, hok', r', q⟩ := h
        have q' : v = .bl true := q
        subst q'
        obtain rfl : u = Value.bool true := r'
        refine ⟨rfl, OldK.of_keep fun b o e => ?_, os, bare⟩
        cases q : H b with
        | none => exact un.keep b o e q (by intro z; exact absurd (show b ∈ ([] : List Addr) from z) (by simp)) (by simp)
        | some u =>
          rcases hO b with z | ⟨ob, xs, z⟩
          · rw [q] at z; cases z
          · have z2 := un.frzs b ob _ z
            obtain ⟨e1, _⟩ := hok b _ z
            obtain ⟨e2, _⟩ := hok' b _ z2
            rw [e] at e1; cases e1
            exact e2
  cases hk : K.lookup a with
  | some o =>
    -- the script is one of the module's own objects
    have e := KX a o hk
    rw [ha] at e
    cases e
    refine core (fun _ => none) (fun _ => .inl rfl) (.inr ⟨_, vs.toArray, _, hk, rfl, rfl, rfl, by rw [List.size_toArray, lenV]; exact hl, by simpa using rv⟩) (fun b u z => by have z' : (none : Option HO) = some u := z; cases z') (fun b z => absurd rfl z) fun z => absurd rfl z
  | none =>
    refine core (fun b => if b = a then some (.frz { cls := .type "list", data := .seq vs.toArray } (.lst (ns.map V.int))) else none) (fun b => ?_) (.inl (.inr ⟨{ cls := .type "list", data := .seq vs.toArray }, if_pos rfl⟩)) (fun b u z => ?_) (fun b z => ?_) fun _ => hk
    · by_cases hb : b = a
      · exact .inr ⟨_, _, if_pos hb⟩
      · exact .inl (if_neg hb)
    · by_cases hb : b = a
      · have z' := (if_pos hb).symm.trans z
        cases z'
        subst hb
        exact ⟨ha, by rw [List.length_map]; exact hl, vs, _, rv, ha⟩
      · have z' := (if_neg hb).symm.trans z
        cases z'
    · by_cases hb : b = a
      · exact hb
      · exact absurd (if_neg hb) z
end L2

namespace L2
open PySem PySem.Spec PyProof.Rows

abbrev KOf {K : PySem.W.Frag} {h : Heap} (_ : K.In h) : PySem.W.Frag := K

/-- the goal that k_head leaves (case hc), from the law's promise. F gives the function object fd (K's own) once, then the promise over every base -/
theorem walk_of {l : PySem.W.OpenLaw} {n k : Nat} {q : Program} {loose : List Str} {XP : (Str → Option Value) → Heap → Prop} {YP : World → Heap → Prop} {d : DefRec} {K : Params → PySem.W.Frag} {CX : World → CXT} {sp : World → Sp} {x : Str}
    (hn : l.most = some n) (hn2 : n ≤ sizeLine) (hdf : d.params.defaults = []) (hr : Room k callerA)
    (hY : ∀ (w : World) (h : Heap), YP w h → (K w.params).In h)
    (F : ∀ (w : World) (mg : Str → Option Value) (fa : Addr) (h : Heap), (K w.params).In h → h.Ns mainGlobals mg → mg d.name = some (.ref fa) →
      ∃ fd : FuncData, (∀ (s : Shared) (u : Value), BindsTo s fd ⟨[u], []⟩ [(x, u)]) ∧
        ∀ base : Heap, (K w.params).In base → base.Ns mainGlobals mg → FnOk l.prog w (K w.params) mg base (CX w) k fa fd [x] (sp w))
    (hsp : ∀ (w : World) (H : Hp) (a : Addr) (ns : List Int), ns.length ≤ n → Only H → SqL (K w.params) H a (ns.map V.int) → sp w [.ref a] H (fun v _ => v = .bl true) fun _ _ _ => False)
    (hCX : ∀ (w : World) (H : Hp) (s : Shared) (e : Value) (s' : Shared), CX w [] H s (fun _ _ _ => False) e s' → False) :
    PySem.W.WalkO q loose XP YP l.row.toRowW d [] (fun f vs => PySem.call f vs) := by
  refine Att.attach_call hn hdf fun w s₀ s₁ mg mb fa o pm cd doc a vs ns G Y ho hd hcd hmg hobj hints hlen hg => ?_
  have KX := hY w _ Y
  obtain ⟨fd, hb, hF⟩ := F w mg fa _ KX G.T.g hmg
  exact law_call KX G.T.g G.T.b G.T.builtins G.T.nolimit hg hobj hints (Nat.le_trans hlen hn2) hr hF hb (fun H hO hS => hsp w H a ns hlen hO hS) fun H e s' => hCX w H s₁ e s'
end L2

/- THE LAST THEOREM (shape; LID, My.* are yours):
   My.Adr: a structure of the addresses that your layer names (classes, functions); My.Txt K t: a structure (Prop) of the equations over K;
   My.txt_mk : {K} {implicit addresses ..} (e1 : nsIn K mainGlobals "law" = some (some (.ref f))) (e2 : K.lookup f = some ⟨oc, od, .func (fnOf "law" "law" params body scope dV kV doc pm an cdv ct), sl⟩) (e3 : codeIn K cdv "law" = true) .. : ∃ t, My.Txt K t

set_option maxRecDepth 100000 in
set_option maxHeartbeats 0 in
theorem PySem.Challenge.cw_LID_holds : PySem.Challenge.rw_LID.Holds := by
  w_on; o_law; k_head; (case hw => w_witness2)
  k_fill
  refine L2.walk_of (l := PySem.Challenge.rw_LID) (n := 63) (k := 40) (x := "script") (CX := fun w => ..) (sp := fun _ => My.sp_law) rfl (by decide) rfl ⟨rfl, by decide, by decide⟩ (fun w h Y => PySem.W.kIn_of Y) ?F ?S ?C
  case F =>
    intro w mg fa h KX G hmg
    have T : ∃ t, My.Txt (L2.KOf KX) t := by
      dsimp only [L2.KOf]                          -- K must stand as «<heap const> w.params» for k_is
      refine' My.txt_mk ?e1 ?e2 ?e3 ..
      (case e1 => PySem.W.k_is)                    -- in the order: a name -> its address -> its object -> its parts
      (case e2 => PySem.W.k_is)
      ..
    obtain ⟨t, T⟩ := T
    have e0 := hmg.symm.trans (PySem.W.mg_of KX G T.law)
    cases e0                                       -- fa is the law's own address
    exact ⟨_, fun s u => .of_eq rfl, fun base kb nb => My.law_fn T kb nb⟩     -- if «.of_eq rfl» comes too early: refine' ⟨_, ?b, fun base kb nb => My.law_fn T kb nb⟩; exact fun s u => .of_eq rfl
  case S => exact fun w H a ns hl hO hS => ..
  case C => exact ..
(the tactic k_is has no namespace: write k_is) -/

/-! SHORT WORDS over the layer: a def of the text, its body, what a loop and a test want. -/
namespace L2
open PySem PySem.Spec PyProof.Rows

/-! ### the text by places -/
/-- the j-th statement of a class's body -/
def inClass (s : Stmt) (j : Nat) : Stmt := match s with
  | .ClassDef _ _ _ body _ _ _ _ _ _ _ => body.getD j (.Pass ⟨0, 0, 0, 0⟩)
  | _ => .Pass ⟨0, 0, 0, 0⟩
def defArgs (s : Stmt) : Arguments := match s with
  | .FunctionDef _ a _ _ _ _ _ _ _ _ => a
  | _ => { posonlyargs := [], args := [], vararg := none, kwonlyargs := [], kw_defaults := [], kwarg := none, defaults := [] }
def defBody (s : Stmt) : List Stmt := match s with
  | .FunctionDef _ _ b _ _ _ _ _ _ _ => b
  | _ => []
def defScope (s : Stmt) : Scope := match s with
  | .FunctionDef _ _ _ _ _ _ sc _ _ _ => sc
  | _ => { kind := .function, names := [], isGenerator := false, isCoroutine := false }

/-! ### no exception leaves a def -/
abbrev CX0 : CXT := fun _ _ _ _ _ _ => False
abbrev E0 : XK := fun _ _ _ => False
theorem pass0 {X : Cx} : Passes CX0 X E0 := fun _ _ _ _ _ _ _ h => h.elim

/-! ### a def (or method) of the text as it stands behind the top -/
structure Fun (K : PySem.W.Frag) (x qual : Str) (st : Stmt) (f : Addr) (fd : FuncData) : Prop where
  ex : ∃ (oc : Value) (od : Option Addr) (kV doc pm : Value) (an : Option Addr) (cdv ct : Value) (osl : Array (Option Value)),
    fd = PySem.W.fnOf x qual (defArgs st) (defBody st) (defScope st) .none kV doc pm an cdv ct ∧ K.lookup f = some ⟨oc, od, .func fd, osl⟩ ∧ PySem.W.codeIn K cdv qual = true
  kp : PySem.W.keepIn K (.ref f) = true
section
variable {P : Program} {w : World} {K : PySem.W.Frag} {mg : Str → Option Value} {base : Heap}
/-- THE RULE for a def: its body as a term of rules, and the reading of that term -/
theorem Fun.ok {x qual : Str} {st : Stmt} {f : Addr} {fd : FuncData} {N ps : List Str} {k : Nat} {sp : Sp} (F : Fun K x qual st f fd) (S : FnScope N ps (defScope st)) (len : ∀ vs H Q E, sp vs H Q E → vs.length = ps.length)
    (hbody : ∀ (cdv : Value) (A : Around) (outer : List Env) (s : Shared) (H : Hp) (vs : List V) (Q : VK) (E : XK), Room k (A.deeper (envOfC qual (defScope st) s.heap.objs.size f cdv)) → sp vs H Q E →
      ∃ t, PSs (cxOf CX0 P w K mg base N qual (defScope st) f cdv A outer s H E).nox (defBody st) t ∧ t { nx := fun _ H' => Q .non H', rt := Q } (start N vs) H) : FnOk P w K mg base CX0 (k + 1) f fd ps sp := by
  obtain ⟨oc, od, kV, doc, pm, an, cdv, ct, osl, rfl, lk, hcd⟩ := F.ex
  refine fn_of lk hcd S len fun A outer s H vs Q E hr hsp => ?_
  obtain ⟨t, h, q⟩ := hbody cdv A outer s H vs Q E hr hsp
  exact ⟨t, h.nox, q⟩
/-- how its arguments bind (no defaults): h is «fun _ _ _ _ _ _ us hl => match us, hl with | [_, _], _ => rfl», one _ a parameter -/
theorem Fun.binds {x qual : Str} {st : Stmt} {f : Addr} {fd : FuncData} {ps : List Str} (F : Fun K x qual st f fd)
    (h : ∀ (kV doc pm : Value) (an : Option Addr) (cdv ct : Value) (us : List Value), us.length = ps.length → bindArgs (PySem.W.fnOf x qual (defArgs st) (defBody st) (defScope st) .none kV doc pm an cdv ct) ⟨us, []⟩ = pure (ps.zip us)) : Binds K fd ps [] := by
  obtain ⟨oc, od, kV, doc, pm, an, cdv, ct, osl, rfl, lk, hcd⟩ := F.ex
  exact .all (h kV doc pm an cdv ct)
theorem fun_mk {x qual : Str} {st : Stmt} {f : Addr} {oc : Value} {od an : Option Addr} {osl : Array (Option Value)} {kV doc pm cdv ct : Value} (l : K.lookup f = some ⟨oc, od, .func (PySem.W.fnOf x qual (defArgs st) (defBody st) (defScope st) .none kV doc pm an cdv ct), osl⟩)
    (c : PySem.W.codeIn K cdv qual = true) (k : PySem.W.keepIn K (.ref f) = true) : Fun K x qual st f (PySem.W.fnOf x qual (defArgs st) (defBody st) (defScope st) .none kV doc pm an cdv ct) := ⟨⟨oc, od, kV, doc, pm, an, cdv, ct, osl, rfl, l, c⟩, k⟩
end
theorem hu_of {A : Around} {k : Nat} (hr : Room k A) : A.units + 1 < cLine := Nat.lt_of_le_of_lt (Nat.add_le_add_left (by decide : 1 ≤ 64) _) hr.units
theorem small1000 {n : Nat} (h : n ≤ 1000) : n < sizeLine := Nat.lt_of_le_of_lt h (by decide)

/-! ### expressions in short: the name that stands in the i-th slot -/
section
variable {X : Cx}
theorem pv (i : Nat) {x : Str} {pos : Pos} (hN : X.N[i]? = some x := by rfl) (hv : Vis X.env.scope x := by first | exact Or.inl rfl | exact Or.inr (Or.inl rfl) | exact Or.inr (Or.inr rfl)) (hd : (x == ("__debug__" : Str)) = false := by decide)
    (hcd : (x == ("__classdict__" : Str)) = false := by decide) : PE X (.Name x pos) (tVar i) := pe_var hN hv hd hcd
end

/-! ### tests -/
theorem iteF {A B : Prop} (h : B) : if false = true then A else B := by
  rw [if_neg Bool.false_ne_true]
  exact h
theorem iteT {A B : Prop} (h : A) : if true = true then A else B := by
  rw [if_pos rfl]
  exact h
/-! ### heaps -/
/-- all that was tracked is as it was -/
def Same (H H' : Hp) : Prop := ∀ b o, H b = some o → H' b = some o
theorem Same.refl (H : Hp) : Same H H := fun _ _ h => h
theorem Same.trans {H H1 H2 : Hp} (a : Same H H1) (b : Same H1 H2) : Same H H2 := fun c o h => b c o (a c o h)
theorem Same.seq {K : PySem.W.Frag} {H H' : Hp} {a : Addr} {xs : List V} (e : Same H H') (h : SqL K H a xs) : SqL K H' a xs := by
  rcases h with (h | ⟨o, h⟩) | h
  · exact .inl (.inl (e _ _ h))
  · exact .inl (.inr ⟨o, e _ _ h⟩)
  · exact .inr h

end L2

set_option Elab.async false
set_option linter.all false
set_option maxRecDepth 100000
namespace L2
open PySem PySem.Spec PyProof.Rows

/-! ### lists of pairs as tables -/
section
variable {κ : Type} [DecidableEq κ]
def valV (kvs : List (κ × V)) (k : κ) : Option V := (kvs.find? fun kv => decide (kv.1 = k)).map (·.2)
/-- in its place, or at the end -/
def putK (kvs : List (κ × V)) (k : κ) (v : V) : List (κ × V) :=
  if (kvs.any fun kv => decide (kv.1 = k)) = true then kvs.map (fun kv => if kv.1 = k then (kv.1, v) else kv) else kvs ++ [(k, v)]
def dropK (kvs : List (κ × V)) (k : κ) : List (κ × V) := kvs.filter fun kv => decide (kv.1 ≠ k)

theorem valV_pos {p : κ × V} {r : List (κ × V)} {k : κ} (e : p.1 = k) : valV (p :: r) k = some p.2 := by simp [valV, List.find?_cons, e]
theorem valV_neg {p : κ × V} {r : List (κ × V)} {k : κ} (e : ¬ p.1 = k) : valV (p :: r) k = valV r k := by simp [valV, List.find?_cons, e]
theorem valV_any (k : κ) : ∀ kvs : List (κ × V), (kvs.any fun kv => decide (kv.1 = k)) = (valV kvs k).isSome
  | [] => rfl
  | p :: r => by
    rw [List.any_cons]
    by_cases e : p.1 = k
    · simp only [valV_pos e, decide_eq_true e, Bool.true_or, Option.isSome_some]
    · rw [valV_neg e, decide_eq_false e, Bool.false_or]; exact valV_any k r
theorem length_putK (kvs : List (κ × V)) (k : κ) (v : V) : (putK kvs k v).length ≤ kvs.length + 1 := by
  unfold putK
  split
  · rw [List.length_map]; omega
  · rw [List.length_append, List.length_cons, List.length_nil]; omega
theorem RelO.isSome_eq {o : Option V} {u : Option Value} (r : RelO o u) : o.isSome = u.isSome := by
  cases o with
  | none => cases u with
    | none => rfl
    | some _ => exact (show False from r).elim
  | some _ => cases u with
    | none => exact (show False from r).elim
    | some _ => rfl
/-- raw tables of the same keys -/
theorem KV.val {kvs : List (κ × V)} {vs : List (κ × Value)} (r : KV kvs vs) (k : κ) : RelO (valV kvs k) (valueAt vs k) := by
  unfold KV at r
  induction r with
  | nil => exact True.intro
  | @cons p q ps qs h t ih =>
    obtain ⟨h1, h2⟩ := h
    by_cases e : p.1 = k
    · have e' : q.1 = k := h1.symm.trans e
      have b : valueAt (q :: qs) k = some q.2 := by simp [valueAt, List.find?_cons, e']
      rw [valV_pos e, b]; exact h2
    · have e' : ¬ q.1 = k := fun z => e (h1.trans z)
      have b : valueAt (q :: qs) k = valueAt qs k := by simp [valueAt, List.find?_cons, e']
      rw [valV_neg e, b]; exact ih
theorem KV.any {kvs : List (κ × V)} {vs : List (κ × Value)} (r : KV kvs vs) (k : κ) : (kvs.any fun kv => decide (kv.1 = k)) = vs.any fun kv => decide (kv.1 = k) := by
  unfold KV at r
  induction r with
  | nil => rfl
  | cons h t ih => rw [List.any_cons, List.any_cons, ih, h.1]
theorem KV.repl {kvs : List (κ × V)} {vs : List (κ × Value)} (r : KV kvs vs) (k : κ) {y : V} {u : Value} (ry : RelV y u) :
    KV (kvs.map fun kv => if kv.1 = k then (kv.1, y) else kv) (vs.map fun kv => if kv.1 = k then (kv.1, u) else kv) := by
  unfold KV at r ⊢
  induction r with
  | nil => exact .nil
  | @cons p q ps qs h t ih =>
    rw [List.map_cons, List.map_cons]
    refine .cons ?_ ih
    obtain ⟨h1, h2⟩ := h
    by_cases e : p.1 = k
    · rw [if_pos e, if_pos (h1.symm.trans e)]; exact ⟨h1, ry⟩
    · rw [if_neg e, if_neg (fun z => e (h1.trans z))]; exact ⟨h1, h2⟩
theorem KV.put {kvs : List (κ × V)} {vs : List (κ × Value)} (r : KV kvs vs) (k : κ) {y : V} {u : Value} (ry : RelV y u) : KV (putK kvs k y) (stored vs k u) := by
  unfold putK stored
  rw [r.any k]
  by_cases e : (vs.any fun kv => decide (kv.1 = k)) = true
  · rw [if_pos e, if_pos e]; exact r.repl k ry
  · rw [if_neg e, if_neg e]; exact Paired.snoc r ⟨rfl, ry⟩
theorem KV.keys {kvs : List (κ × V)} {vs : List (κ × Value)} (r : KV kvs vs) : kvs.map (·.1) = vs.map (·.1) := by
  unfold KV at r
  induction r with
  | nil => rfl
  | cons h t ih => rw [List.map_cons, List.map_cons, ih, h.1]
theorem KV.length {kvs : List (κ × V)} {vs : List (κ × Value)} (r : KV kvs vs) : kvs.length = vs.length := Paired.length r
end


/-! ### a tracked dict, its keys ints and texts or tuples of these -/
theorem kV_is {P : Program} {w : World} {k : Key} {u : Value} (r : RelV (kV k) u) : (mixKind P w).is k u = true := by
  cases k with
  | inl i => obtain ⟨t, e⟩ := (show ∃ t, u = Value.int i t from r); subst e; exact mixKind_int P w i t
  | inr x => obtain ⟨t, e⟩ := (show ∃ t, u = Value.str x t from r); subst e; exact mixKind_str P w x t
theorem items_are {P : Program} {w : World} : ∀ {ks : List Key} {us : List Value}, Vals (ks.map kV) us → ItemsAre (mixKind P w) ks us
  | [], _, r => by rw [List.map_nil] at r; cases r; exact .nil
  | k :: ks, _, r => by
    rw [List.map_cons] at r
    cases r with
    | cons h t => exact .cons (kV_is h) (items_are t)

/-- raw entries of a dict with tuple keys -/
abbrev KT (H : Hp) : List (List Key × V) → List (List Key × Addr × Value) → Prop := Paired fun p q => p.1 = q.1 ∧ H q.2.1 = some (.tup (p.1.map kV)) ∧ RelV p.2 q.2.2
theorem KT.val {H : Hp} {kvs : List (List Key × V)} {xs : List (List Key × Addr × Value)} (r : KT H kvs xs) (k : List Key) : RelO (valV kvs k) ((atKey xs k).map (·.2)) := by
  induction r with
  | nil => exact True.intro
  | @cons p q ps qs h t ih =>
    obtain ⟨h1, _, h2⟩ := h
    by_cases e : p.1 = k
    · have e' : q.1 = k := h1.symm.trans e
      have b : atKey (q :: qs) k = some q.2 := by simp [atKey, List.find?_cons, e']
      rw [valV_pos e, b]; exact h2
    · have e' : ¬ q.1 = k := fun z => e (h1.trans z)
      have b : atKey (q :: qs) k = atKey qs k := by simp [atKey, List.find?_cons, e']
      rw [valV_neg e, b]; exact ih
theorem KT.repl {H : Hp} {kvs : List (List Key × V)} {xs : List (List Key × Addr × Value)} (r : KT H kvs xs) (k : List Key) {y : V} {u : Value} (ry : RelV y u) :
    KT H (kvs.map fun kv => if kv.1 = k then (kv.1, y) else kv) (xs.map (putAt k u)) := by
  induction r with
  | nil => exact .nil
  | @cons p q ps qs h t ih =>
    rw [List.map_cons, List.map_cons]
    refine .cons ?_ ih
    obtain ⟨h1, h2, h3⟩ := h
    unfold putAt
    by_cases e : p.1 = k
    · rw [if_pos e, if_pos (h1.symm.trans e)]; exact ⟨h1, h2, ry⟩
    · rw [if_neg e, if_neg (fun z => e (h1.trans z))]; exact ⟨h1, h2, h3⟩
theorem KT.put {H : Hp} {kvs : List (List Key × V)} {xs : List (List Key × Addr × Value)} (r : KT H kvs xs) (k : List Key) {b : Addr} {y : V} {u : Value} (hb : H b = some (.tup (k.map kV))) (ry : RelV y u) :
    KT H (putK kvs k y) (storedH xs k b u) := by
  have e : (kvs.any fun kv => decide (kv.1 = k)) = (atKey xs k).isSome := by
    rw [valV_any, (r.val k).isSome_eq, Option.isSome_map]
  unfold putK storedH
  rw [e]
  by_cases q : (atKey xs k).isSome = true
  · rw [if_pos q, if_pos q]; exact r.repl k ry
  · rw [if_neg q, if_neg q]; exact Paired.snoc r ⟨rfl, hb, ry⟩
theorem KT.keeps {H H' : Hp} {kvs : List (List Key × V)} {xs : List (List Key × Addr × Value)} (r : KT H kvs xs) (ht : ∀ b ys, H b = some (.tup ys) → H' b = some (.tup ys)) : KT H' kvs xs :=
  Paired.mapP r fun _ _ z => ⟨z.1, ht _ _ z.2.1, z.2.2⟩

section
variable {P : Program} {w : World} {H : Hp} {h : Heap} {a : Addr}
theorem rd_of {u : HO} (ok : HOk P w H h) (e : Rd H a u) : ObjOk P w H h a u := e.ok ok
theorem dk_rd {kvs : List (Key × V)} (ok : HOk P w H h) (e : Rd H a (.dK kvs)) : kvs.length ≤ sizeLine ∧ (a == sysModules) = false ∧ ∃ vs, KV kvs vs ∧ h.DictOf (mixKind P w) a vs :=
  show ObjOk P w H h a (.dK kvs) from rd_of ok e
theorem dk_of {kvs : List (Key × V)} (ok : HOk P w H h) (e : H a = some (.dK kvs)) : kvs.length ≤ sizeLine ∧ (a == sysModules) = false ∧ ∃ vs, KV kvs vs ∧ h.DictOf (mixKind P w) a vs := dk_rd ok (.inl e)
/-- a tracked tuple of ints and texts is a key -/
theorem key_of {ks : List Key} (ok : HOk P w H h) (e : H a = some (.tup (ks.map kV))) : (tupleKind (mixKind P w)).is h ks a := by
  obtain ⟨_, its, r, o, h1, h2, n, h3⟩ := (show ObjOk P w H h a (.tup (ks.map kV)) from ok a _ e)
  exact ⟨o, its.toArray, n, h1, h2, h3, by simpa using items_are r⟩
theorem dt_rd {kvs : List (List Key × V)} (ok : HOk P w H h) (e : Rd H a (.dT kvs)) : kvs.length ≤ sizeLine ∧ (a == sysModules) = false ∧
    ∃ xs, KT H kvs xs ∧ h.DictOfH (tupleKind (mixKind P w)) a xs := by
  obtain ⟨z, y, xs, r, o, es, ep, h1, h2, h3, h4, h5⟩ := (show ObjOk P w H h a (.dT kvs) from rd_of ok e)
  refine ⟨z, y, xs, r, o, es, ep, h1, h2, h3, h4, fun x hx => ?_, h5⟩
  have all : ∀ {l : List (List Key × V)} {m : List (List Key × Addr × Value)}, KT H l m → ∀ x ∈ m, (tupleKind (mixKind P w)).is h x.1 x.2.1 := by
    intro l m q
    induction q with
    | nil => intro x hx; exact nomatch hx
    | @cons p q ps qs hq t ih =>
      intro x hx
      rcases List.mem_cons.mp hx with e | hx
      · subst e
        exact key_of ok (by rw [← hq.1]; exact hq.2.1)
      · exact ih x hx
  exact all r x hx
theorem dt_of {kvs : List (List Key × V)} (ok : HOk P w H h) (e : H a = some (.dT kvs)) : kvs.length ≤ sizeLine ∧ (a == sysModules) = false ∧
    ∃ xs, KT H kvs xs ∧ h.DictOfH (tupleKind (mixKind P w)) a xs := dt_rd ok (.inl e)
end

/-- what the dict at a holds at the key y -/
def DGet (H : Hp) (a : Addr) (y : V) (r : Option V) : Prop :=
  (∃ kvs k, Rd H a (.dK kvs) ∧ y = kV k ∧ r = valV kvs k) ∨ ∃ kvs k b, Rd H a (.dT kvs) ∧ y = .ref b ∧ H b = some (.tup (k.map kV)) ∧ r = valV kvs k
/-- the heap behind a[y] = v -/
def DPut (H : Hp) (a : Addr) (y v : V) (H' : Hp) : Prop :=
  (∃ kvs k, H a = some (.dK kvs) ∧ y = kV k ∧ kvs.length < sizeLine ∧ H' = upd H a (.dK (putK kvs k v))) ∨
  ∃ kvs k b, H a = some (.dT kvs) ∧ y = .ref b ∧ H b = some (.tup (k.map kV)) ∧ kvs.length < sizeLine ∧ H' = upd H a (.dT (putK kvs k v))
section
variable {X : Cx} {pins : List (Addr × Obj)} {σ : St} {H : Hp} {s : Shared} {a : Addr} {y v : V} {u r : Value} {o : Option V} {A : Around} {E : Value → Shared → Prop}

theorem Inv.big (I : Inv X pins σ H s) : sysModules < s.heap.objs.size := by
  have h : mainGlobals < s.heap.objs.size := (I.mod.glob.keeps I.bk).lt
  exact Nat.lt_trans (by decide) h

/-- d[y], there -/
theorem d_getItem {Q : Value → Shared → Prop} (hu : A.units + 1 < cLine) (I : Inv X pins σ H s) (g : DGet H a y (some v)) (ry : RelV y u) (h : ∀ w' s', Inv X pins σ H s' → RelV v w' → Q w' s') :
    wpAny (model X.prog X.w) A (getItem (.ref a) u) Q E s := by
  rcases g with ⟨kvs, k, e, ey, l⟩ | ⟨kvs, k, b, e, ey, eb, l⟩
  · subst ey
    obtain ⟨z, hd, vs, rel, dd⟩ := dk_rd I.hok e
    obtain ⟨w', hw, rw'⟩ := RelO.some_of (v := v) (o := valueAt vs k) (by rw [l]; exact rel.val k)
    exact wpAny_getItem_of (kV_is ry) dd.mapOf hw (h w' _ (I.tok _) rw')
  · subst ey
    cases (show u = Value.ref b from ry)
    obtain ⟨z, hd, xs, rel, dd⟩ := dt_rd I.hok e
    obtain ⟨w', hw, rw'⟩ := RelO.some_of (v := v) (o := (atKey xs k).map (·.2)) (by rw [l]; exact rel.val k)
    obtain ⟨p, hp, hp2⟩ := Option.map_eq_some_iff.mp hw
    refine wpAny_getItem_heap (tupleKind_room_in1 hu) (key_of I.hok eb) dd hp ?_
    rw [hp2]
    exact h w' _ (I.tok _) rw'
/-- y in d -/
theorem d_in {Q : Value → Shared → Prop} (hu : A.units + 1 < cLine) (I : Inv X pins σ H s) (g : DGet H a y o) (ry : RelV y u) (h : ∀ s', Inv X pins σ H s' → Q (.bool o.isSome) s') :
    wpAny (model X.prog X.w) A (compareOp .In u (.ref a)) Q E s := by
  rcases g with ⟨kvs, k, e, ey, l⟩ | ⟨kvs, k, b, e, ey, eb, l⟩
  · subst ey
    obtain ⟨z, hd, vs, rel, dd⟩ := dk_rd I.hok e
    refine wpAny_in_of (kV_is ry) hd dd.mapOf ?_
    rw [← (rel.val k).isSome_eq, ← l]
    exact h _ (I.tok _)
  · subst ey
    cases (show u = Value.ref b from ry)
    obtain ⟨z, hd, xs, rel, dd⟩ := dt_rd I.hok e
    refine wpAny_in_heap (tupleKind_room_in1 hu) (key_of I.hok eb) hd dd ?_
    have q := (rel.val k).isSome_eq
    rw [Option.isSome_map] at q
    rw [← q, ← l]
    exact h _ (I.tok _)
/-- a dict's object is replaced -/
theorem d_write {h' : Heap} {t' : Nat} {ob : HO} (I : Inv X pins σ H s) (mu : Mut (H a)) (hs : Heap.SameBut a s.heap h') (he : ∃ q, h'.get? a = some q) (new : ObjOk X.prog X.w (upd H a ob) h' a ob) :
    Inv X pins σ (upd H a ob) { s with heap := h', toks := t' } :=
  I.write (x := a) (e := a) mu (.inl rfl) (fun b q hb z => (hs.2 b hb).trans z) he new
theorem dk_new {P : Program} {w : World} {H' : Hp} {h' : Heap} {kvs : List (Key × V)} {vs : List (Key × Value)} (z : kvs.length ≤ sizeLine) (hd : (a == sysModules) = false) (rel : KV kvs vs) (dd : h'.DictOf (mixKind P w) a vs) :
    ObjOk P w H' h' a (.dK kvs) := ⟨z, hd, vs, rel, dd⟩
/-- d[y] = v -/
theorem d_setItem {H' : Hp} {Q : Unit → Shared → Prop} (hu : A.units + 1 < cLine) (I : Inv X pins σ H s) (g : DPut H a y v H') (ry : RelV y u) (rv : RelV v r) (h : ∀ s', Inv X pins σ H' s' → Q () s') :
    wpAny (model X.prog X.w) A (setItem (.ref a) u r) Q E s := by
  rcases g with ⟨kvs, k, e, ey, l, eH⟩ | ⟨kvs, k, b, e, ey, eb, l, eH⟩
  · subst ey eH
    obtain ⟨z, hd, vs, rel, dd⟩ := dk_of I.hok e
    have hz : vs.length ≤ sizeLine := by rw [← rel.length]; exact z
    have hl : (putK kvs k v).length ≤ sizeLine := by have := length_putK kvs k v; omega
    refine wpAny_setItem_pairs (hsz := hz) (kV_is ry) dd fun h' dd' hs => h _ ?_
    have he : ∃ q, h'.get? a = some q := let ⟨q, _, _, hq, _⟩ := dd'; ⟨q, hq⟩
    exact d_write I (by rw [e]; exact True.intro) hs he (dk_new hl hd (rel.put k rv) dd')
  · subst ey eH
    cases (show u = Value.ref b from ry)
    obtain ⟨z, hd, xs, rel, dd⟩ := dt_of I.hok e
    have hz : xs.length ≤ sizeLine := by rw [← Paired.length rel]; exact z
    have hl : (putK kvs k v).length ≤ sizeLine := by have := length_putK kvs k v; omega
    refine wpAny_setItem_heap (hsz := hz) (tupleKind_room_in1 hu) (key_of I.hok eb) dd fun h' dd' hs => h _ ?_
    obtain ⟨q, es, ep, hq, h2, h3, h4, _, h5⟩ := dd'
    refine d_write I (by rw [e]; exact True.intro) hs ⟨q, hq⟩ ⟨hl, hd, _, (rel.put k eb rv).keeps fun c ys ec => ?_, q, es, ep, hq, h2, h3, h4, h5⟩
    rw [upd_ne (ne_of ec e (fun z => nomatch z))]
    exact ec
end

section
variable {X : Cx} {pins : List (Addr × Obj)} {σ : St} {H : Hp} {s : Shared} {a : Addr} {kvs : List (Key × V)} {k : Key} {u : Value} {A : Around} {E : Value → Shared → Prop}
end


/-! ### readings and rules -/
/-- the element of a subscription, not a slice -/
def NoSl (i : Expr) : Prop := ∀ ov iv, subscripted i false ov iv = operate [ov, iv] (getItem ov iv)
theorem subD_of {prog : Program} {w : World} {A : Around} {E : Value → Shared → Prop} {s : Shared} {env : Env} {value slice : Expr} {pos : Pos} {T id : String} {Q : Value → Shared → Prop}
    (hl : typeLookup (.type T) "__getitem__" = pure (some (.builtin id))) (hs : NoSl slice)
    (h : wpAny (model prog w) A (eval value env) (fun o s₁ => wpAny (model prog w) A (eval slice env) (fun i s₂ => s₂.TypeIs o T ∧ wpAny (model prog w) A (getItem o i) Q E s₂) E s₁) E s) :
    wpAny (model prog w) A (eval (.Subscript value slice pos) env) Q E s := by
  refine Subscript_ (wpAny_mono h (fun o s₁ h₁ => wpAny_mono h₁ (fun i s₂ h₂ => ?_) fun _ _ x => x) fun _ _ x => x)
  obtain ⟨hT, h₂⟩ := h₂
  unfold subscriptTail
  refine wpAny_bind ?_
  rw [getitemInPython_of_ne hT.not_modules]
  refine wpAny_bind (wpAny_specialOf hT hl ?_)
  have fin : wpAny (model prog w) A (subscripted slice false o i) (fun r s₃ => wpAny (model prog w) A (letTemporaryGo value o r >>= fun _ => pure r) Q E s₃) E s₂ := by
    rw [hs o i]
    exact wpAny_operating (wpAny_mono h₂ (fun r s₃ h₃ => wpAny_bind (wpAny_letTemporaryGo (wpAny_pure h₃))) fun _ _ x => x)
  first
    | exact wpAny_pure (wpAny_bind fin)
    | exact wpAny_bind (wpAny_pure (wpAny_bind fin))
    | exact wpAny_bind fin

theorem dict_typeIs {X : Cx} {pins : List (Addr × Obj)} {σ : St} {H : Hp} {s : Shared} {a : Addr} {y : V} {o : Option V} (I : Inv X pins σ H s) (g : DGet H a y o) : s.TypeIs (.ref a) "dict" := by
  rcases g with ⟨kvs, k, e, _, _⟩ | ⟨kvs, k, b, e, _, _, _⟩
  · obtain ⟨_, _, vs, _, dd⟩ := dk_rd I.hok e
    exact dd.typeIs
  · obtain ⟨_, _, xs, _, dd⟩ := dt_rd I.hok e
    exact dd.typeIs
/-- d[y] -/
def tDGet (td ty : TE) : TE := fun σ H Q => td σ H fun x H1 => ty σ H1 fun y H2 => ∃ a v, x = .ref a ∧ DGet H2 a y (some v) ∧ Q v H2
/-- y in d, y not in d -/
def tDIn (ty td : TE) : TE := fun σ H Q => ty σ H fun y H1 => td σ H1 fun x H2 => ∃ a o, x = .ref a ∧ DGet H2 a y o ∧ Q (.bl o.isSome) H2
def tDNotIn (ty td : TE) : TE := fun σ H Q => ty σ H fun y H1 => td σ H1 fun x H2 => ∃ a o, x = .ref a ∧ DGet H2 a y o ∧ Q (.bl (!o.isSome)) H2
/-- d[y] = v -/
def sDPut (td ty tv : TE) : TS := fun D σ H => tv σ H fun v H1 => td σ H1 fun x H2 => ty σ H2 fun y H3 => ∃ a H4, x = .ref a ∧ DPut H3 a y v H4 ∧ D.nx σ H4
/-- d[y] op= v -/
def sDAug (td ty tv : TE) (rd : V → V → Hp → VK → Prop) : TS := fun D σ H => td σ H fun x H1 => ty σ H1 fun y H2 => ∃ a v, x = .ref a ∧ DGet H2 a y (some v) ∧
  tv σ H2 fun y2 H3 => rd v y2 H3 fun z H4 => ∃ H5, DPut H4 a y z H5 ∧ D.nx σ H5
/-- del d[y] -/
def sDDel (td ty : TE) : TS := fun D σ H => td σ H fun x H1 => ty σ H1 fun y H2 => ∃ a kvs k, x = .ref a ∧ H2 a = some (.dK kvs) ∧ y = kV k ∧ (valV kvs k).isSome = true ∧ D.nx σ (upd H2 a (.dK (dropK kvs k)))

section
variable {X : Cx} {o i e value : Expr} {pos pos' tpos : Pos} {td ty tv : TE}
theorem pe_dget (hu : X.A.units + 1 < cLine) (ho : PE X o td) (hi : PE X i ty) (hs : NoSl i) : PE X (.Subscript o i pos) (tDGet td ty) := by
  intro pins s σ H Q I h
  refine subD_of PySem.F.slot_dict_getitem.lookup hs (thn (ho pins s σ H _ I h) fun u s1 ⟨x, H1, I1, rx, q1⟩ => thn (hi pins s1 σ H1 _ I1 q1) fun iv s2 ⟨y, H2, I2, ry, a, v, ex, g, q2⟩ => ?_)
  subst ex
  obtain rfl : u = Value.ref a := rx
  exact ⟨dict_typeIs I2 g, d_getItem hu I2 g ry fun w' s3 I3 rw' => ⟨v, H2, I3, rw', q2⟩⟩
theorem ps_dput (hu : X.A.units + 1 < cLine) (ho : PE X o td) (hi : PE X i ty) (hv : PE X value tv) (hs : swapsWith value (some (.Subscript o i pos')) pos.line X.env = pure false) :
    PS X (.Assign [.Subscript o i pos'] value pos) (sDPut td ty tv) := by
  intro pins s σ H D I h
  refine wpAny_Assign_Subscript (thn (hv pins s σ H _ I h) fun r s1 ⟨v, H1, I1, rv, q1⟩ => thn (ho pins s1 σ H1 _ I1 q1) fun u s2 ⟨x, H2, I2, rx, q2⟩ => thn (hi pins s2 σ H2 _ I2 q2) fun iv s3 ⟨y, H3, I3, ry, a, H4, ex, g, q3⟩ => ?_) hs
  subst ex
  obtain rfl : u = Value.ref a := rx
  exact d_setItem hu I3 g ry rv fun s4 I4 => ⟨σ, H4, I4, q3⟩
end


/-! ### displays -/
/-- {}, to be a dict of the kind that is wanted -/
def tDNewK : TE := fun _ H Q => ∀ p, H p = none → Q (.ref p) (upd H p (.dK []))
def tDNewT : TE := fun _ H Q => ∀ p, H p = none → Q (.ref p) (upd H p (.dT []))
section
variable {X : Cx} {pos : Pos}
end

/-- the pairs of a display, from the left -/
def tPairs : List (TE × TE) → St → Hp → (List (V × V) → Hp → Prop) → Prop
  | [], _, H, Q => Q [] H
  | (tk, tv) :: r, σ, H, Q => tk σ H fun x H1 => tv σ H1 fun y H2 => tPairs r σ H2 fun ps H3 => Q ((x, y) :: ps) H3
abbrev VV : List (V × V) → List (Value × Value) → Prop := Paired fun p q => RelV p.1 q.1 ∧ RelV p.2 q.2
def PPs (X : Cx) (pos : Pos) (keys : List (Option Expr)) (values : List Expr) (trs : List (TE × TE)) : Prop :=
  ∀ (pins : List (Addr × Obj)) (s : Shared) (σ : St) (H : Hp) (Q : List (V × V) → Hp → Prop), Inv X pins σ H s → tPairs trs σ H Q →
    wpAny (model X.prog X.w) X.A (evalPairs (pairTrees keys values X.env pos)) (fun vs s' => ∃ ps H', Inv X pins σ H' s' ∧ VV ps vs ∧ Q ps H') X.xe s
def mergeK (kvs more : List (Key × V)) : List (Key × V) := more.foldl (fun acc kv => putK acc kv.1 kv.2) kvs
/-- {k: v, ..} with keys ints and texts; the new dict stands empty while the pairs are made -/
def tDisp (trs : List (TE × TE)) : TE := fun σ H Q => ∀ p, H p = none → tPairs trs σ (upd H p (.dK [])) fun ps H2 => H2 p = some (.dK []) ∧ ∃ kvs : List (Key × V), ps = kvs.map (fun kv => (kV kv.1, kv.2)) ∧ kvs.length ≤ 15 ∧ Q (.ref p) (upd H2 p (.dK (mergeK [] kvs)))
/-! ### methods -/
/-- a method call o.m(e) of a built-in, with one argument: what must be seen of the text -/
structure M1 (X : Cx) (o : Expr) (m : Str) (apos : Pos) (e : Expr) (cpos : Pos) : Prop where
  base : attributeBase o m X.env (eval o X.env) = eval o X.env
  few : ((backTo cpos (starEach [e] X.env)).all (fun x => !x.1) && (backToKw cpos (keywordEach [] X.env)).all (fun x => x.1.isSome)
    && decide (([e] : List Expr).length + ([] : List Keyword).length + (if ([] : List Keyword).isEmpty then 0 else 1) < 30)) = true
  line : (apos.endLine == cpos.line) = true
  trees : backTo cpos (starEach [e] X.env) = [(false, eval e X.env)]
structure M2 (X : Cx) (o : Expr) (m : Str) (apos : Pos) (e f : Expr) (cpos : Pos) : Prop where
  base : attributeBase o m X.env (eval o X.env) = eval o X.env
  few : ((backTo cpos (starEach [e, f] X.env)).all (fun x => !x.1) && (backToKw cpos (keywordEach [] X.env)).all (fun x => x.1.isSome)
    && decide (([e, f] : List Expr).length + ([] : List Keyword).length + (if ([] : List Keyword).isEmpty then 0 else 1) < 30)) = true
  line : (apos.endLine == cpos.line) = true
  trees : backTo cpos (starEach [e, f] X.env) = [(false, eval e X.env), (false, eval f X.env)]

/-- a is a dict, whatever its keys -/
def IsD (H : Hp) (a : Addr) : Prop := (∃ kvs, Rd H a (.dK kvs)) ∨ ∃ kvs, Rd H a (.dT kvs)
section
variable {X : Cx} {pins : List (Addr × Obj)} {σ : St} {H : Hp} {s : Shared} {a : Addr} {y d : V} {u r : Value} {o : Option V} {A : Around} {E : Value → Shared → Prop}
end

def tDGet1 (td ty : TE) : TE := fun σ H Q => td σ H fun x H1 => ∃ a, x = .ref a ∧ IsD H1 a ∧ ty σ H1 fun y H2 => ∃ o, DGet H2 a y o ∧ Q (o.getD .non) H2
def tDGet2 (td ty tx : TE) : TE := fun σ H Q => td σ H fun x H1 => ∃ a, x = .ref a ∧ IsD H1 a ∧ ty σ H1 fun y H2 => tx σ H2 fun z H3 => ∃ o, DGet H3 a y o ∧ Q (o.getD z) H3
/-- d.pop(k): there; d.pop(k, x): there or not -/
def tDPop1 (td ty : TE) : TE := fun σ H Q => td σ H fun x H1 => ∃ a, x = .ref a ∧ IsD H1 a ∧ ty σ H1 fun y H2 => ∃ kvs k v, H2 a = some (.dK kvs) ∧ y = kV k ∧ valV kvs k = some v ∧ Q v (upd H2 a (.dK (dropK kvs k)))
def tDPop2 (td ty tx : TE) : TE := fun σ H Q => td σ H fun x H1 => ∃ a, x = .ref a ∧ IsD H1 a ∧ ty σ H1 fun y H2 => tx σ H2 fun z H3 => ∃ kvs k, H3 a = some (.dK kvs) ∧ y = kV k ∧
  (∀ v, valV kvs k = some v → Q v (upd H3 a (.dK (dropK kvs k)))) ∧ (valV kvs k = none → Q z H3)
section
variable {X : Cx} {o e f : Expr} {apos cpos : Pos} {td ty tx : TE}
end

/-! ### dict(d): a copy -/
section
variable {X : Cx} {pins : List (Addr × Obj)} {σ : St} {H : Hp} {s : Shared} {a : Addr} {kvs : List (Key × V)} {A : Around} {E : Value → Shared → Prop}
theorem d_copyOf {Q : Value → Shared → Prop} (I : Inv X pins σ H s) (e : Rd H a (.dK kvs)) (h : ∀ p s', H p = none → Inv X pins σ (upd H p (.dK kvs)) s' → Q (.ref p) s') : wpAny (model X.prog X.w) A (call (.type "dict") [.ref a]) Q E s := by
  obtain ⟨z, hd, vs, rel, dd⟩ := dk_rd I.hok e
  refine kt_call_dict hd dd (by rw [← rel.length]; exact z) fun h' dd' hs => ?_
  refine h _ _ (I.hok.fresh (Nat.le_refl _)) (I.laid (a := s.heap.objs.size) (o := .dK kvs) (t' := s.toks) (fun b q hq => ?_) (Nat.le_refl _) (dk_new z (beq_eq_false_iff_ne.mpr (Ne.symm (Nat.ne_of_lt I.big))) rel dd'))
  exact (hs.2 b (Nat.ne_of_lt (Heap.lt_size hq))).trans (Heap.get?_push_of_some _ hq)
end


section
variable {X : Cx} {pins : List (Addr × Obj)} {σ : St} {H : Hp} {s : Shared} {a : Addr} {y : V} {u : Value} {A : Around} {E : Value → Shared → Prop}
end
end L2
namespace L2
open PySem PySem.Spec PyProof.Rows
section
variable {X : Cx}
end
/-! ### a dict's pairs: keys that differ -/
section
variable {κ : Type} [DecidableEq κ]
end
end L2

set_option Elab.async false
set_option linter.all false
set_option maxRecDepth 100000
namespace L2
open PySem PySem.Spec PyProof.Rows
/-! Own words over the layer, part A: calls by name, constants of the module, wide division, == of data. -/
/-- a def of the text that is called by its name -/
structure Cal (P : Program) (w : World) (K : PySem.W.Frag) (mg : Str → Option Value) (base : Heap) (CX : CXT) (k : Nat) (x : Str) (ps : List Str) (sp : Sp) : Prop where
  ex : ∃ f fd, FnOk P w K mg base CX k f fd ps sp ∧ Binds K fd ps [] ∧ PySem.W.keepIn K (.ref f) = true ∧ mg x = some (.ref f)
/-- a constant of the module -/
def GC (mg : Str → Option Value) (x : Str) (v : V) : Prop := ∃ u, mg x = some u ∧ RelV v u
section
variable {X : Cx} {CX : CXT} {j k : Nat} {ps : List Str} {sp : Sp} {E : XK} {x : Str} {v : V} {p pos : Pos} {e : Expr} {es : List Expr} {t : TA}
theorem pe_fn (c : Cal X.prog X.w X.K X.mg X.base CX k x ps sp) (hr : Room j X.A) (hx : Passes CX X E) (ha : PA X (e :: es) t) (hk : k ≤ j := by decide) (hg : Gl X x := by rfl) (hdb : (x == ("__debug__" : Str)) = false := by decide)
    (he : starEach (e :: es) X.env = (false, eval e X.env) :: starEach es X.env := by rfl) (hpl : (backTo pos (starEach es X.env)).any (·.1) = false := by rfl) :
    PE X (.Call (.Name x p) (e :: es) [] pos) (tCall sp [] E t) := by
  obtain ⟨f, fd, F, b, kp, m⟩ := c.ex
  exact pe_call F (hr.mono hk) hg m kp b .nil hx ha hdb he hpl
theorem pe_gc (h : GC X.mg x v) (hg : Gl X x := by rfl) (hd : (x == ("__debug__" : Str)) = false := by decide) : PE X (.Name x pos) (tC v) := by
  obtain ⟨u, m, r⟩ := h
  exact pe_glob hg m r hd
def CDivW (i j : Int) : Prop := 0 < j ∧ j < 2 ^ 200
theorem op_fdivW : OpR X (binaryOp .FloorDiv) (rI CDivW fun i j => .int (i / j)) := opI fun i j _ _ _ _ _ hc q => by
  have h1 : (0 : Int) < j := hc.1
  have h2 : j < 2 ^ 200 := hc.2
  have h3 : j.natAbs < 2 ^ 200 := by omega
  have h4 : j.natAbs.log2 < 200 := (Nat.log2_lt (by omega)).mpr h3
  exact floordiv_int (by omega) (by rw [Int.fdiv_eq_ediv_of_nonneg i (by omega)]; exact q) (.inl (PyProof.noPylong_of_log2 (by omega)))
end

/-! ### data: deep values -/
mutual
inductive DV (K : PySem.W.Frag) (H : Hp) : V → PyData → Prop
  | non : DV K H .non .none
  | bl (b : Bool) : DV K H (.bl b) (.bool b)
  | int (i : Int) : DV K H (.int i) (.int i)
  | str (x : Str) : DV K H (.str x) (.str x)
  | tup {a xs ds} : SqT K H a xs → DVs K H xs ds → DV K H (.ref a) (.tuple ds)
  | lst {a xs ds} : SqL K H a xs → DVs K H xs ds → DV K H (.ref a) (.list ds)
inductive DVs (K : PySem.W.Frag) (H : Hp) : List V → List PyData → Prop
  | nil : DVs K H [] []
  | cons {x xs d ds} : DV K H x d → DVs K H xs ds → DVs K H (x :: xs) (d :: ds)
end
section
variable {X : Cx} {pins : List (Addr × Obj)} {σ : St} {H : Hp} {s : Shared}
mutual
theorem DV.reads (I : Inv X pins σ H s) : ∀ {x : V} {d : PyData} {u : Value}, DV X.K H x d → RelV x u → ∃ as, Reads s.heap u d as
  | _, _, _, .non, r => by cases r; exact ⟨_, Reads.none⟩
  | _, _, _, .bl b, r => by cases r; exact ⟨_, Reads.bool b⟩
  | _, _, _, .int i, r => by obtain ⟨t, rfl⟩ := r; exact ⟨_, Reads.int i t⟩
  | _, _, _, .str x, r => by obtain ⟨t, rfl⟩ := r; exact ⟨_, Reads.str x t⟩
  | _, _, _, .tup h hs, r => by
    cases r
    obtain ⟨its, rs, ⟨o, ho, hc, n, hd⟩, _⟩ := I.tuple h
    obtain ⟨as, q⟩ := DVs.reads I hs rs
    exact ⟨_, reads_tuple_at ho hc hd (by simpa using q)⟩
  | _, _, _, .lst h hs, r => by
    cases r
    obtain ⟨its, rs, ⟨o, n, ho, hc, _, hd⟩, _⟩ := I.list h
    obtain ⟨as, q⟩ := DVs.reads I hs rs
    exact ⟨_, reads_list_at ho hc hd (by simpa using q)⟩
theorem DVs.reads (I : Inv X pins σ H s) : ∀ {xs : List V} {ds : List PyData} {us : List Value}, DVs X.K H xs ds → Vals xs us → ∃ as, ReadsAll s.heap us ds as
  | _, _, _, .nil, .nil => ⟨_, ReadsAll.nil⟩
  | _, _, _, .cons h hs, .cons r rs => by
    obtain ⟨as, q⟩ := DV.reads I h r
    obtain ⟨bs, p⟩ := DVs.reads I hs rs
    exact ⟨_, ReadsAll.cons q p⟩
end
def rEqD (K : PySem.W.Frag) : R2 := fun x y H Q => ∃ d e, DV K H x d ∧ DV K H y e ∧ SeqAt.shaped d = true ∧ SeqAt.shaped e = true ∧ Q (.bl (PyData.eqv d e)) H
def rNeD (K : PySem.W.Frag) : R2 := fun x y H Q => ∃ d e, DV K H x d ∧ DV K H y e ∧ SeqAt.shaped d = true ∧ SeqAt.shaped e = true ∧ Q (.bl (!PyData.eqv d e)) H
theorem op_neD (hu : X.A.units + 64 < cLine) : OpR X (compareOp .NotEq) (rNeD X.K) := by
  intro pins s σ H x y v u Q I rx ry h
  obtain ⟨d, e, hd, he, sd, se, q⟩ := h
  obtain ⟨as, ra⟩ := hd.reads I rx
  obtain ⟨bs, rb⟩ := he.reads I ry
  exact ne_dataH ra rb sd se hu ⟨.bl _, H, I, rfl, q⟩
end
theorem Same.tup {K : PySem.W.Frag} {H H' : Hp} {a : Addr} {xs : List V} (e : Same H H') (h : SqT K H a xs) : SqT K H' a xs := by
  rcases h with (h | ⟨o, h⟩) | h
  · exact .inl (.inl (e _ _ h))
  · exact .inl (.inr ⟨o, e _ _ h⟩)
  · exact .inr h
theorem same_new {H : Hp} {p : Addr} (h : H p = none) (o : HO) : Same H (upd H p o) := fun b u q => by rw [upd_ne (ne_of_none q h)]; exact q
end L2

set_option Elab.async false
set_option linter.all false
set_option maxRecDepth 100000
namespace L2
open PySem PySem.Spec PyProof.Rows
theorem boot_str : bootBuiltins "str" = some (.type "str") := by decide +kernel
theorem boot_list : bootBuiltins "list" = some (.type "list") := by decide +kernel
theorem boot_dict : bootBuiltins "dict" = some (.type "dict") := by decide +kernel
section
variable {X : Cx}
/-- isinstance of a class that is known -/
def rIsi (K : PySem.W.Frag) (c : V) (cv : Value) : List V → Hp → VK → Prop := fun xs H Q => ∃ x t b, xs = [x, c] ∧ TyOf K H x t ∧ PySem.W.kitOne K t cv = some b ∧ Q (.bl b) H
end
end L2

/-! Own mathematics: bits of numbers. -/
namespace Tw
theorem pop_dec {n : Nat} (h : ¬ n = 0) : n / 2 < n := Nat.div_lt_self (Nat.pos_of_ne_zero h) (by decide)
def pop (n : Nat) : Nat := if h : n = 0 then 0 else n % 2 + pop (n / 2)
termination_by n
decreasing_by exact pop_dec h
theorem and_div2 (a b : Nat) : (a &&& b) / 2 = (a / 2) &&& (b / 2) := by
  apply Nat.eq_of_testBit_eq
  intro i
  rw [Nat.testBit_and, Nat.testBit_div_two, Nat.testBit_div_two, Nat.testBit_div_two, Nat.testBit_and]
/-- how many of the first k places p holds at -/
def cnt (p : Nat → Bool) : Nat → Nat
  | 0 => 0
  | k + 1 => cnt p k + (p k).toNat
def bI (b : Bool) : Int := if b then 1 else 0
theorem or_div2 (a b : Nat) : (a ||| b) / 2 = (a / 2) ||| (b / 2) := by
  apply Nat.eq_of_testBit_eq
  intro i
  rw [Nat.testBit_or, Nat.testBit_div_two, Nat.testBit_div_two, Nat.testBit_div_two, Nat.testBit_or]
theorem mod2_b (a : Nat) : a % 2 = (a.testBit 0).toNat := by
  rw [Nat.testBit_zero]
  rcases Nat.mod_two_eq_zero_or_one a with e | e <;> rw [e] <;> rfl
theorem or_mod2 (a b : Nat) : (a ||| b) % 2 + (a &&& b) % 2 = a % 2 + b % 2 := by
  rw [mod2_b, mod2_b (a &&& b), mod2_b a, mod2_b b, Nat.testBit_or, Nat.testBit_and]
  cases a.testBit 0 <;> cases b.testBit 0 <;> rfl
theorem or_add_and : ∀ a b : Nat, (a ||| b) + (a &&& b) = a + b := by
  intro a
  induction a using Nat.strongRecOn with
  | ind a ih =>
    intro b
    by_cases ha : a = 0
    · subst ha; simp
    · have q := ih (a / 2) (by omega) (b / 2)
      have h1 := or_div2 a b
      have h2 := and_div2 a b
      have h3 := or_mod2 a b
      rw [← h1, ← h2] at q
      omega
theorem pow2_cast (n : Nat) : ((2 : Int) ^ n) = ((2 ^ n : Nat) : Int) := by push_cast; rfl
theorem emod_nat (y : Int) {n : Nat} (h : 0 < n) : ∃ k : Nat, y % (n : Int) = (k : Int) ∧ k < n := by
  have h1 := Int.emod_nonneg y (show ((n : Int)) ≠ 0 by omega)
  have h2 := Int.emod_lt_of_pos y (show (0 : Int) < (n : Int) by omega)
  exact ⟨(y % n).toNat, by omega, by omega⟩
end Tw

set_option Elab.async false
set_option linter.all false
set_option maxRecDepth 100000
namespace L2
open PySem PySem.Spec PyProof.Rows
/-! What readings are simplified by. -/
theorem scal_ii (a b : Int) : scal (.int a) (.int b) = true := rfl
theorem scal_ss (a b : Str) : scal (.str a) (.str b) = true := rfl
theorem bitAnd_nat (a b : Nat) : Builtin.bitAnd (a : Int) (b : Int) = ((a &&& b : Nat) : Int) := by
  rw [bitAnd_pp (by omega) (by omega)]; simp
theorem bitOr_nat (a b : Nat) : Builtin.bitOr (a : Int) (b : Int) = ((a ||| b : Nat) : Int) := by
  have h : Builtin.bitOr (a : Int) (b : Int) = a + b - ((a &&& b : Nat) : Int) := by rw [bitOr_and, bitAnd_nat]
  have e := Tw.or_add_and a b
  omega
theorem bitAnd_bit (x i : Nat) : Builtin.bitAnd ((x : Int) / 2 ^ i) 1 = Tw.bI (x.testBit i) := by
  have e : ((x : Int) / 2 ^ i) = ((x / 2 ^ i : Nat) : Int) := by push_cast; rfl
  have e1 : (1 : Int) = ((1 : Nat) : Int) := rfl
  rw [e, e1, bitAnd_nat, Nat.and_one_is_mod]
  rw [Nat.testBit_eq_decide_div_mod_eq]
  unfold Tw.bI
  rcases Nat.mod_two_eq_zero_or_one (x / 2 ^ i) with h | h <;> rw [h] <;> rfl
theorem SqT.upd {K : PySem.W.Frag} {H : Hp} {p a : Addr} {o : HO} {xs : List V} (h : H p = none) (s : SqT K H a xs) : SqT K (upd H p o) a xs := (same_new h o).tup s
theorem SqL.upd {K : PySem.W.Frag} {H : Hp} {p a : Addr} {o : HO} {xs : List V} (h : H p = none) (s : SqL K H a xs) : SqL K (upd H p o) a xs := (same_new h o).seq s
theorem Same.updR {H H1 : Hp} {p : Addr} {o : HO} (s : Same H H1) (h : H1 p = none) : Same H (upd H1 p o) := s.trans (same_new h o)
theorem upd_get {H : Hp} {p a : Addr} {o u : HO} (h : H p = none) (s : H a = some u) : upd H p o a = some u := same_new h o a u s
section
variable {K : PySem.W.Frag} {H : Hp} {Q : VK} {a b : Addr} {i j : Int} {x y : Str} {p q : Bool}
theorem rEq_i : rEq (.int i) (.int j) H Q = Q (.bl (decide (i = j))) H := by
  unfold rEq
  rw [scal_ii]
  simp only [V.int.injEq, true_and]
theorem rEq_s : rEq (.str x) (.str y) H Q = Q (.bl (decide (x = y))) H := by
  unfold rEq
  rw [scal_ss]
  simp only [V.str.injEq, true_and]
theorem rNe_s : rNe (.str x) (.str y) H Q = Q (.bl (!decide (x = y))) H := by
  unfold rNe
  rw [scal_ss]
  simp only [V.str.injEq, true_and]
end
theorem cxOf_K {CX : CXT} {P : Program} {w : World} {K : PySem.W.Frag} {mg : Str → Option Value} {base : Heap} {N : List Str} {qual : Str} {scope : Scope} {f : Addr} {cd : Value} {A : Around} {outer : List Env} {s : Shared} {H : Hp} {E : XK} : (cxOf CX P w K mg base N qual scope f cd A outer s H E).K = K := rfl
theorem cpow_n {i : Int} {n : Nat} (h : n ≤ 1000) (h2 : i.natAbs < 2 ^ 64 := by decide) : CPow i (n : Int) := ⟨by omega, by omega, h2⟩
theorem shaped_ints (is : List Int) : SeqAt.shaped (.tuple (is.map PyData.int)) = true := by
  simp [SeqAt.shaped, PyData.canLay0, PyData.depth, PySem.W.ke_canLayAll0, PySem.W.ke_depthAll]
theorem dvs_ints {K : PySem.W.Frag} {H : Hp} : ∀ is : List Int, DVs K H (is.map V.int) (is.map PyData.int)
  | [] => .nil
  | _ :: r => .cons (.int _) (dvs_ints r)
theorem eqv_ints : ∀ is js : List Int, PyData.eqvAll (is.map PyData.int) (js.map PyData.int) = decide (is = js)
  | [], [] => by simp [PyData.eqvAll]
  | [], _ :: _ => by simp [PyData.eqvAll]
  | _ :: _, [] => by simp [PyData.eqvAll]
  | a :: r, b :: t => by
    simp only [List.map_cons, PyData.eqvAll, PyData.eqv, eqv_ints r t]
    by_cases h : a = b <;> by_cases h' : r = t <;> simp [h, h']
theorem rNeD_ints {K : PySem.W.Frag} {H : Hp} {Q : VK} {a b : Addr} {is js : List Int} (ha : SqT K H a (is.map V.int)) (hb : SqT K H b (js.map V.int)) (q : Q (.bl (!decide (is = js))) H) : rNeD K (.ref a) (.ref b) H Q :=
  ⟨_, _, .tup ha (dvs_ints is), .tup hb (dvs_ints js), shaped_ints is, shaped_ints js, by rw [PyData.eqv, eqv_ints]; exact q⟩
section
variable {K : PySem.W.Frag} {H : Hp} {Q : VK} {a b : Addr} {i1 i2 i3 j1 j2 j3 : Int}
theorem rNeD_2 (ha : SqT K H a [.int i1, .int i2]) (hb : SqT K H b [.int j1, .int j2]) (q : Q (.bl (!decide ([i1, i2] = [j1, j2]))) H) : rNeD K (.ref a) (.ref b) H Q := rNeD_ints (is := [i1, i2]) (js := [j1, j2]) ha hb q
end
end L2

set_option Elab.async false
set_option linter.all false
set_option maxRecDepth 100000
namespace L2
open PySem PySem.Spec PyProof.Rows
/-! One step of a reading, at its head. -/
section
variable {K : PySem.W.Frag} {H : Hp} {Q : VK} {R : Bool → Hp → Prop} {D : Ends} {σ : St} {t u : TS} {te ta tb : TE} {tt tu : TT} {tA : TA} {g : TG} {gs : TGs} {v w : V} {a b : Addr} {i j : Int} {p q : Bool} {x y : Str} {n m k : Nat}
theorem st_seq (h : t { D with nx := u D } σ H) : tSeq t u D σ H := h
theorem st_next (h : D.nx σ H) : tNext D σ H := h
theorem st_asg (h : te σ H fun x H1 => g x σ H1 D.nx) : tAsg te g D σ H := h
theorem st_ret (h : te σ H D.rt) : tRet te D σ H := h
theorem st_drop (h : te σ H fun _ H1 => D.nx σ H1) : tDrop te D σ H := h
theorem st_if (h : tt σ H fun b H1 => if b = true then t D σ H1 else u D σ H1) : tIfS tt t u D σ H := h
theorem st_gname {P : St → Hp → Prop} (h : P (σ.set n (some v)) H) : gName n v σ H P := h
theorem st_gtup {P : St → Hp → Prop} {xs : List V} (s : SqT K H a xs) (l : xs.length = n) (h : gs xs σ H P) : gTup K n gs (.ref a) σ H P := ⟨a, xs, rfl, s, l, h⟩
theorem st_gcons {P : St → Hp → Prop} {r : List V} (h : g v σ H fun σ' H' => gs r σ' H' P) : gCons g gs (v :: r) σ H P := ⟨v, r, rfl, h⟩
theorem st_gnil {P : St → Hp → Prop} (h : P σ H) : gNil [] σ H P := ⟨rfl, h⟩
theorem st_c (h : Q v H) : tC v σ H Q := h
theorem st_var (e : σ[n]? = some (some v)) (h : Q v H) : tVar n σ H Q := ⟨v, e, h⟩
theorem st_op {r : R2} (h : ta σ H fun x H1 => tb σ H1 fun y H2 => r x y H2 Q) : tOp r ta tb σ H Q := h
theorem st_un {r : V → Hp → VK → Prop} (h : ta σ H fun x H1 => r x H1 Q) : tUn r ta σ H Q := h
theorem st_test (h : te σ H fun x H' => ∃ k, x = .bl k ∧ R k H') : tTest te σ H R := h
theorem st_bl {P : Bool → Prop} (h : P p) : ∃ k, V.bl p = V.bl k ∧ P k := ⟨p, rfl, h⟩
theorem st_and (h : tt σ H fun c H1 => if c = true then tu σ H1 R else R false H1) : tAnd tt tu σ H R := h
theorem st_or (h : tt σ H fun c H1 => if c = true then R true H1 else tu σ H1 R) : tOr tt tu σ H R := h
theorem st_ifE (h : tt σ H fun c H1 => if c = true then ta σ H1 Q else tb σ H1 Q) : tIf tt ta tb σ H Q := h
theorem st_call {sp : Sp} {dvs : List V} {E : XK} (h : tA σ H fun vs H1 => sp (vs ++ dvs) H1 Q E) : tCall sp dvs E tA σ H Q := h
theorem st_cb {r : List V → Hp → VK → Prop} (h : tA σ H fun vs H1 => r vs H1 Q) : tCB r tA σ H Q := h
theorem st_cons {P : List V → Hp → Prop} (h : te σ H fun x H1 => tA σ H1 fun xs H2 => P (x :: xs) H2) : tCons te tA σ H P := h
theorem st_nil {P : List V → Hp → Prop} (h : P [] H) : tNil σ H P := h
theorem st_tup (h : tA σ H fun xs H1 => xs.length ≤ sizeLine ∧ ∀ p, H1 p = none → Q (.ref p) (upd H1 p (.tup xs))) : tTup tA σ H Q := h
theorem st_lst (h : tA σ H fun xs H1 => xs.length ≤ sizeLine ∧ ∀ p, H1 p = none → Q (.ref p) (upd H1 p (.lst xs))) : tLst tA σ H Q := h
theorem st_size {A : Prop} {xs : List V} (h : Nat.ble xs.length 1000 = true) (q : A) : xs.length ≤ sizeLine ∧ A := ⟨Nat.le_of_lt (small1000 (Nat.le_of_ble_eq_true h)), q⟩
theorem st_part {P : Option Int → Hp → Prop} (h : te σ H fun x H1 => ∃ i, x = .int i ∧ P (some i) H1) : tPart te σ H P := h
theorem st_int {P : Int → Prop} (h : P i) : ∃ k, V.int i = V.int k ∧ P k := ⟨i, rfl, h⟩
theorem st_sl {r : V → Option Int → Option Int → Hp → VK → Prop} {tl th : TO} (h : te σ H fun x H1 => tl σ H1 fun l H2 => th σ H2 fun u H3 => r x l u H3 Q) : tSl r te tl th σ H Q := h
theorem st_slL {xs : List V} {lo hi : Option Int} (s : SqL K H a xs) (h : ∀ p, H p = none → Q (.ref p) (upd H p (.lst (cutV xs lo hi)))) : rSlL K (.ref a) lo hi H Q := ⟨a, xs, rfl, s, h⟩
theorem st_i0 {g : Int → Int → V} (h : Q (g i j) H) : rI0 g (.int i) (.int j) H Q := ⟨i, j, rfl, rfl, h⟩
theorem st_i {C : Int → Int → Prop} {g : Int → Int → V} (c : C i j) (h : Q (g i j) H) : rI C g (.int i) (.int j) H Q := ⟨i, j, rfl, rfl, c, h⟩
theorem st_u {g : Int → V} (h : Q (g i) H) : rU g (.int i) H Q := ⟨i, rfl, h⟩
theorem st_eqi (h : Q (.bl (decide (i = j))) H) : rEq (.int i) (.int j) H Q := by rw [rEq_i]; exact h
theorem st_eqs (h : Q (.bl (decide (x = y))) H) : rEq (.str x) (.str y) H Q := by rw [rEq_s]; exact h
theorem st_nes (h : Q (.bl (!decide (x = y))) H) : rNe (.str x) (.str y) H Q := by rw [rNe_s]; exact h
theorem st_ixT {xs : List V} (s : SqT K H a xs) (e : atI xs i = some v) (h : Q v H) : rIxT K (.ref a) (.int i) H Q := ⟨a, xs, i, v, rfl, rfl, s, e, h⟩
theorem st_ixL {xs : List V} (s : SqL K H a xs) (e : atI xs i = some v) (h : Q v H) : rIxL K (.ref a) (.int i) H Q := ⟨a, xs, i, v, rfl, rfl, s, e, h⟩
theorem st_orN (h : Q (.int ((n ||| m : Nat) : Int)) H) : rI0 (fun i j => .int (Builtin.bitOr i j)) (.int (n : Int)) (.int (m : Int)) H Q := st_i0 (by rw [bitOr_nat]; exact h)
theorem st_bit (h : Q (.int (Tw.bI (n.testBit k))) H) : rI0 (fun i j => .int (Builtin.bitAnd i j)) (.int ((n : Int) / 2 ^ k)) (.int 1) H Q := st_i0 (by rw [bitAnd_bit]; exact h)
theorem st_shrN (h : Q (.int (i / 2 ^ k)) H) : rI (fun _ j => 0 ≤ j) (fun i j => .int (i / 2 ^ j.toNat)) (.int i) (.int (k : Int)) H Q := st_i (by omega) (by rw [Int.toNat_natCast]; exact h)
theorem st_shl1 (c : k ≤ 1000) (h : Q (.int ((2 ^ k : Nat) : Int)) H) : rI CPow (fun i j => .int (i * 2 ^ j.toNat)) (.int 1) (.int (k : Int)) H Q := st_i (cpow_n c) (by rw [Int.toNat_natCast, Int.one_mul, Tw.pow2_cast]; exact h)
theorem st_modN (c : 0 < n) (h : ∀ k : Nat, i % (n : Int) = (k : Int) → k < n → Q (.int (k : Int)) H) : rI (fun _ j => 0 < j) (fun i j => .int (i % j)) (.int i) (.int (n : Int)) H Q := st_i (by omega) (by
  obtain ⟨k, e, l⟩ := Tw.emod_nat i c
  rw [e]; exact h k e l)
end
theorem iteD {c : Prop} [Decidable c] {A B : Prop} (h1 : c → A) (h2 : ¬ c → B) : if decide c = true then A else B := by
  by_cases h : c
  · rw [decide_eq_true h]; exact iteT (h1 h)
  · rw [decide_eq_false h]; exact iteF (h2 h)
theorem iteN {c : Prop} [Decidable c] {A B : Prop} (h1 : ¬ c → A) (h2 : c → B) : if (!decide c) = true then A else B := by
  by_cases h : c
  · rw [decide_eq_true h]; exact iteF (h2 h)
  · rw [decide_eq_false h]; exact iteT (h1 h)
theorem pow_pos2 (n : Nat) : 0 < 2 ^ n := Nat.pow_pos (by decide)
theorem for_range0 {n : Nat} {g : TG} {tb : TS} {D : Ends} {σ : St} {H : Hp} (Pv : Nat → St → Hp → Prop) (h0 : Pv 0 σ H)
    (hs : ∀ i σ H, i < n → Pv i σ H → g (.int (i : Int)) σ H fun σ2 H2 => tb { D with nx := Pv (i + 1), ct := Pv (i + 1), bk := D.nx } σ2 H2) (hd : ∀ σ H, Pv n σ H → D.nx σ H) :
    ∃ W : Nat → Nat → St → Hp → Prop, (∃ m, W 0 m σ H) ∧ ∀ i m σ H, W i m σ H →
      ((Itr 0 n).stop i H ∧ D.nx σ H) ∨ ((Itr 0 n).go i H ∧ ∃ N : St → Hp → Prop, (∀ σ' H', N σ' H' → ∃ m', m' < m ∧ W (i + 1) m' σ' H') ∧ ∀ x H', (Itr 0 n).yld i H x H' → g x σ H' fun σ2 H2 => tb { D with nx := N, ct := N, bk := D.nx } σ2 H2) :=
  for_range Pv h0 (fun i σ H hi hp => by rw [Int.zero_add]; exact hs i σ H hi hp) hd
/-- for k in range(n), n told by the argument list's reading -/
theorem st_for_range {ta : TE} {n : Nat} {g : TG} {tb : TS} {D : Ends} {σ : St} {H : Hp} (hn : n ≤ 1000000) (e : ∀ P : V → Hp → Prop, P (.int (n : Int)) H → ta σ H P) (Pv : Nat → St → Hp → Prop) (h0 : Pv 0 σ H)
    (hs : ∀ i σ H, i < n → Pv i σ H → g (.int (i : Int)) σ H fun σ2 H2 => tb { D with nx := Pv (i + 1), ct := Pv (i + 1), bk := D.nx } σ2 H2) (hd : ∀ σ H, Pv n σ H → D.nx σ H) : tFor (iRng1 (tCons ta tNil)) g tb D σ H :=
  e _ ⟨(n : Int), rfl, by omega, by omega, for_range0 Pv h0 hs hd⟩
theorem at_i {cs : List Int} {i : Nat} (h : i < cs.length) : ∃ c, atI (cs.map V.int) (i : Int) = some (.int c) :=
  ⟨cs[i], atI_nat (by rw [List.getElem?_map, List.getElem?_eq_getElem h]; rfl)⟩
theorem one_mod (c : Int) (d : Int) (hd : 0 < d) (hd2 : d ≤ 1000) : ∃ n : Nat, 1 + c % d = (n : Int) ∧ 0 < n ∧ (n : Int) ≤ d := by
  have h1 := Int.emod_nonneg c (show d ≠ 0 by omega)
  have h2 := Int.emod_lt_of_pos c hd
  exact ⟨(1 + c % d).toNat, by omega, by omega, by omega⟩
end L2

set_option Elab.async false
set_option linter.all false
set_option maxRecDepth 100000
namespace L2
open PySem PySem.Spec PyProof.Rows
/-! A list comprehension of one clause: its block as a context of its own. -/
/-- the cells that a comprehension's block takes along -/
def clGo (env : Env) : List (Str × NameKind) → List (Str × Addr) → List (Str × Addr)
  | [], acc => acc
  | (n, k) :: r, acc => if (k == NameKind.free) = true then clGo env r ((n, (env.cells.lookup n).getD 0) :: acc) else clGo env r acc
theorem clGo_eq (env : Env) : ∀ (names : List (Str × NameKind)) (acc : List (Str × Addr)), (∀ p ∈ names, p.2 = .free → ∃ c, env.cells.lookup p.1 = some c) →
    (forIn names acc fun x r => match x with
      | (name, kind) => if (kind == NameKind.free) = true then (do let a ← cellOf env name; pure (ForInStep.yield ((name, a) :: r)) : Sem _) else pure (ForInStep.yield r)) = (pure (clGo env names acc) : Sem _)
  | [], _, _ => rfl
  | (n, k) :: r, acc, h => by
    rw [List.forIn_cons]
    by_cases hk : k = NameKind.free
    · subst hk
      obtain ⟨c, hc⟩ := h (n, .free) List.mem_cons_self rfl
      have e : cellOf env n = pure c := by unfold cellOf; rw [hc]
      simp only [beq_self_eq_true, if_true, e, pure_bind, clGo, hc, Option.getD_some]
      exact clGo_eq env r _ fun p hp => h p (List.mem_cons_of_mem _ hp)
    · have hb : (k == NameKind.free) = false := by simpa using hk
      simp only [hb, Bool.false_eq_true, if_false, pure_bind, clGo]
      exact clGo_eq env r _ fun p hp => h p (List.mem_cons_of_mem _ hp)
theorem closure_is {scope : Scope} {env : Env} (h : ∀ p ∈ scope.names, p.2 = .free → ∃ c, env.cells.lookup p.1 = some c) : closureFor scope env = pure (clGo env scope.names []) := by
  unfold closureFor
  have e := clGo_eq env scope.names [] h
  dsimp only
  rw [e]
  rfl
theorem clGo_lookup (env : Env) {y : Str} : ∀ (names : List (Str × NameKind)) (acc : List (Str × Addr)), (∀ p ∈ names, p.2 = .free → ∃ c, env.cells.lookup p.1 = some c) →
    ∀ c, (clGo env names acc).lookup y = some c → acc.lookup y = some c ∨ (env.cells.lookup y = some c)
  | [], _, _, _, e => .inl e
  | (n, k) :: r, acc, h, c, e => by
    rw [clGo] at e
    by_cases hk : (k == NameKind.free) = true
    · rw [if_pos hk] at e
      have hk' : k = NameKind.free := by simpa using hk
      obtain ⟨c', hc'⟩ := h (n, k) List.mem_cons_self hk'
      rcases clGo_lookup env r _ (fun p hp => h p (List.mem_cons_of_mem _ hp)) c e with q | q
      · rw [List.lookup_cons] at q
        cases hb : y == n with
        | true =>
          rw [hb] at q
          have hb' : y = n := eq_of_beq hb
          subst hb'
          have hc'' : env.cells.lookup y = some c' := hc'
          rw [hc'', Option.getD_some] at q
          rw [hc'']
          exact .inr q
        | false => rw [hb] at q; exact .inl q
      · exact .inr q
    · rw [if_neg hk] at e
      exact clGo_lookup env r _ (fun p hp => h p (List.mem_cons_of_mem _ hp)) c e
theorem clGo_has (env : Env) {y : Str} : ∀ (names : List (Str × NameKind)) (acc : List (Str × Addr)), (y, NameKind.free) ∈ names ∨ (∃ c, acc.lookup y = some c) → ∃ c, (clGo env names acc).lookup y = some c
  | [], _, h => h.elim (fun z => nomatch z) id
  | (n, k) :: r, acc, h => by
    rw [clGo]
    have up : ∀ v : Addr, (∃ c, acc.lookup y = some c) → ∃ c, ((n, v) :: acc).lookup y = some c := fun v ⟨c, e⟩ => by
      rw [List.lookup_cons]
      cases hb : y == n with
      | true => exact ⟨v, rfl⟩
      | false => exact ⟨c, e⟩
    by_cases hk : (k == NameKind.free) = true
    · rw [if_pos hk]
      refine clGo_has env r _ ?_
      rcases h with h | h
      · rcases List.mem_cons.mp h with z | z
        · cases z
          exact .inr ⟨(env.cells.lookup y).getD 0, by rw [List.lookup_cons, beq_self_eq_true]⟩
        · exact .inl z
      · exact .inr (up _ h)
    · rw [if_neg hk]
      refine clGo_has env r _ ?_
      rcases h with h | h
      · rcases List.mem_cons.mp h with z | z
        · cases z
          exact absurd rfl hk
        · exact .inl z
      · exact .inr h

def rlb (env : Env) (n : Str) (k : NameKind) : NameKind := if (k == .free && env.scope.kind == .function && env.kindOf n == some .cell) = true then .cell else k
theorem relabel_lookup (env : Env) (y : Str) : ∀ names : List (Str × NameKind),
    (names.map fun (n, k) => if (k == NameKind.free && env.scope.kind == .function && env.kindOf n == some .cell) = true then (n, NameKind.cell) else (n, k)).lookup y = (names.lookup y).map (rlb env y)
  | [] => rfl
  | (n, k) :: r => by
    have e : (if (k == NameKind.free && env.scope.kind == .function && env.kindOf n == some .cell) = true then (n, NameKind.cell) else (n, k)) = (n, rlb env n k) := by
      unfold rlb; split <;> rfl
    rw [List.map_cons]
    show List.lookup y ((if (k == NameKind.free && env.scope.kind == .function && env.kindOf n == some .cell) = true then (n, NameKind.cell) else (n, k)) :: _) = _
    rw [e, List.lookup_cons, List.lookup_cons]
    cases hb : y == n with
    | true => have := eq_of_beq hb; subst this; rfl
    | false => exact relabel_lookup env y r
theorem relabel_kind (scope : Scope) (env : Env) (y : Str) : (relabel scope env).names.lookup y = (scope.names.lookup y).map (rlb env y) := relabel_lookup env y scope.names
theorem mem_of_lookup {α β : Type} [BEq α] [LawfulBEq α] {y : α} {k : β} : ∀ {l : List (α × β)}, l.lookup y = some k → (y, k) ∈ l
  | (n, j) :: r, e => by
    rw [List.lookup_cons] at e
    cases hb : y == n with
    | true => rw [hb] at e; have := eq_of_beq hb; subst this; cases e; exact List.mem_cons_self
    | false => rw [hb] at e; exact List.mem_cons_of_mem _ (mem_of_lookup e)
/-- what the block's scope must be: its own name x, the rest free (a cell or free where the def stands) or global -/
structure CpScope (sc : Scope) (x : Str) (scope : Scope) : Prop where
  kind : scope.kind = .function
  cell : ∀ y ∈ scope.names, y.2 ≠ .cell
  own : scope.names.lookup x = some .local
  loc : ∀ y ∈ scope.names, y.2 = .local → y.1 = x ∨ y.1 = (".0" : Str)
  nam : ∀ y ∈ scope.names, y.2 = .local → scope.names.lookup y.1 = some .local
  free : ∀ y ∈ scope.names, y.2 = .free → sc.names.lookup y.1 = some .cell ∨ sc.names.lookup y.1 = some .free
  two : ∀ y ∈ scope.names, y.2 = .free → y.1 ≠ x
/-- the block's context -/
def Cx.comp (X : Cx) (M : List Str) (scope : Scope) (x : Str) (C : Addr) (s : Shared) (H : Hp) (ex : List Addr) : Cx :=
  { X with N := x :: M, s₀ := s, H₀ := H, env := compEnvC scope (clGo X.env scope.names []) C X.env, outer := X.stack, ex := ex, fn := fun _ => false, pn := [], xe := fun _ _ => False }
section
variable {X : Cx} {M : List Str} {pins : List (Addr × Obj)} {σ : St} {H : Hp} {s : Shared} {scope : Scope} {x : Str}
theorem CpScope.has (S : CpScope X.env.scope x scope) (ok : X.Ok) : ∀ p ∈ scope.names, p.2 = .free → ∃ c, X.env.cells.lookup p.1 = some c := fun p hp e => ok.has p.1 (S.free p hp e)
theorem CpScope.cells (S : CpScope X.env.scope x scope) (ok : X.Ok) {y : Str} {c : Addr} (e : (clGo X.env scope.names []).lookup y = some c) : X.env.cells.lookup y = some c := by
  rcases clGo_lookup X.env scope.names [] (S.has ok) c e with z | z
  · cases z
  · exact z
/-- a name that the block sees is its own, or free there -/
theorem CpScope.sees (S : CpScope X.env.scope x scope) {y : Str} (hy : (relabel scope X.env).names.lookup y ≠ some .local) (hv : Vis (relabel scope X.env) y) : (y, NameKind.free) ∈ scope.names ∧ ((relabel scope X.env).names.lookup y = some .cell ∨ (relabel scope X.env).names.lookup y = some .free) := by
  unfold Vis at hv
  rw [relabel_kind] at hv ⊢
  cases e : scope.names.lookup y with
  | none => rw [e] at hv; rcases hv with z | z | z <;> cases z
  | some k =>
    have hm := mem_of_lookup e
    rw [e] at hv
    have hk : k = .free := by
      by_cases hf : k = .free
      · exact hf
      · have hr : rlb X.env y k = k := by
          unfold rlb
          have : (k == NameKind.free) = false := by simpa using hf
          rw [this]; rfl
        rw [Option.map_some, hr] at hv
        rcases hv with z | z | z
        · rw [relabel_kind, e, Option.map_some, hr] at hy
          exact absurd z hy
        · exact absurd (Option.some.inj z) (S.cell _ hm)
        · exact Option.some.inj z
    subst hk
    refine ⟨hm, ?_⟩
    rw [Option.map_some]
    unfold rlb
    split
    · exact .inl rfl
    · exact .inr rfl
theorem CpScope.ok (S : CpScope X.env.scope x scope) (I : Inv X pins σ H s) {C : Addr} (hC : s.heap.objs.size ≤ C) {fp : List Addr} (hf : ∀ b ∈ fp, FpOk X pins H b) (hl : ∀ b ∈ fp, b < s.heap.objs.size) : (X.comp M scope x C s H fp).Ok where
  mod := I.ok.mod
  kind := S.kind
  glob := I.ok.glob
  blt := I.ok.blt
  above := hC
  inj := fun y z c e1 e2 => I.ok.inj y z c (S.cells I.ok e1) (S.cells I.ok e2)
  has := fun y hy => by
    have hv : Vis (relabel scope X.env) y := .inr hy
    have hne : (relabel scope X.env).names.lookup y ≠ some .local := fun e => by
      have hy' : (relabel scope X.env).names.lookup y = some .cell ∨ (relabel scope X.env).names.lookup y = some .free := hy
      rw [e] at hy'
      rcases hy' with q | q <;> cases q
    exact clGo_has X.env scope.names [] (.inl (S.sees hne hv).1)
  cab := fun _ _ z => nomatch z
  hd := I.ok.hd
  frames := I.ok.frames
  stk := .inl rfl
  exf := fun b hb => ⟨fun z => by
      have h1 := hl b hb
      have z' : b = C := z
      rw [z'] at h1
      exact Nat.not_le.mpr h1 hC, fun y c e => (hf b hb).2.2.2.2.1 y c (S.cells I.ok e)⟩
  bs := I.bs
  bsz := Nat.le_trans I.ok.bsz I.sz
  noex := fun b o e hb => by
    rcases (hf b hb).2.2.2.1 with z | z
    · exact I.ok.noex b o e z
    · have h1 := Heap.lt_size e
      have h2 := I.ok.bsz
      exact absurd (Nat.lt_of_lt_of_le (Nat.lt_of_lt_of_le h1 h2) z) (Nat.lt_irrefl _)
  exfs := fun b hb z => by
    rcases List.mem_cons.mp (I.stkSub b z) with q | q
    · exact (hf b hb).2.1 q
    · exact (hf b hb).2.2.1 q
  funs := I.stack
  frf := I.stkFree
/-- entering the block -/
theorem CpScope.inv (S : CpScope X.env.scope x scope) (hx : x ∉ M) (h0 : (".0" : Str) ∉ M) (hlen : M.length = X.N.length) (hM : ∀ (j : Nat) y, M[j]? = some y → X.N[j]? = some y ∨ scope.names.lookup y = none) (I : Inv X pins σ H s) {C : Addr} (hC : s.heap.objs.size ≤ C) {fp : List Addr} (hf : ∀ b ∈ fp, FpOk X pins H b) (hl : ∀ b ∈ fp, b < s.heap.objs.size) {h1 : Heap} {t1 : Nat}
    (old : ∀ b o, s.heap.get? b = some o → h1.get? b = some o) {m : Str → Option Value} (ns : h1.Ns C m) : Inv (X.comp M scope x C s H fp) [] (none :: σ) H { s with heap := h1, toks := t1 } where
  ok := S.ok I hC hf hl
  os := rfl
  bare := I.bare
  base := Un.kept old
  loc := by
    refine ⟨m, ns, fun i y v e1 e2 hv => ?_⟩
    cases i with
    | zero => cases e2
    | succ j =>
      have e1' : M[j]? = some y := by simpa [Cx.comp] using e1
      have e2' : σ[j]? = some (some v) := by simpa using e2
      by_cases hy : (relabel scope X.env).names.lookup y = some .local
      · exfalso
        rw [relabel_kind] at hy
        cases e : scope.names.lookup y with
        | none => rw [e] at hy; cases hy
        | some k =>
          rw [e, Option.map_some] at hy
          have hk : k = .local := by
            have hy' := Option.some.inj hy
            unfold rlb at hy'
            split at hy'
            · cases hy'
            · exact hy'
          rcases S.loc _ (mem_of_lookup e) hk with z | z
          · have z' : y = x := z
            subst z'; exact hx (List.mem_of_getElem? e1')
          · have z' : y = (".0" : Str) := z
            subst z'; exact h0 (List.mem_of_getElem? e1')
      · obtain ⟨hm, hk⟩ := S.sees hy hv
        obtain ⟨m0, _, hl0⟩ := I.loc
        have hx0 : Vis X.env.scope y := .inr (S.free _ hm rfl)
        have e1' : X.N[j]? = some y := by
          rcases hM j y e1' with z | z
          · exact z
          · exfalso
            unfold Vis at hv
            have hv' : (relabel scope X.env).names.lookup y = some .local ∨ (relabel scope X.env).names.lookup y = some .cell ∨ (relabel scope X.env).names.lookup y = some .free := hv
            rw [relabel_kind, z] at hv'
            rcases hv' with q | q | q <;> cases q
        obtain ⟨u, r, l⟩ := hl0 j y v e1' e2' hx0
        refine ⟨u, r, .inr ⟨hk, ?_⟩⟩
        obtain ⟨c, hc⟩ := clGo_has X.env scope.names [] (.inl hm)
        refine ⟨c, hc, ?_⟩
        have hc0 := S.cells I.ok hc
        rcases l with ⟨k0, _⟩ | ⟨_, c0, e0, q0⟩
        · rcases S.free _ hm rfl with z | z
          · have k0' : X.env.scope.names.lookup y = some .local := k0
            rw [z] at k0'; cases k0'
          · have k0' : X.env.scope.names.lookup y = some .local := k0
            rw [z] at k0'; cases k0'
        · rw [hc0] at e0; cases e0
          obtain ⟨o, ho, hd⟩ := q0
          exact ⟨o, old _ _ ho, hd⟩
  cell := fun y c e => by
    obtain ⟨v, o, ho, hd⟩ := I.cell y c (S.cells I.ok e)
    exact ⟨v, o, old _ _ ho, hd⟩
  free := I.hok.fresh hC
  freeC := fun y c e => I.freeC y c (S.cells I.ok e)
  pin := fun p hp => by cases hp
  hok := I.hok.kept old
  len := by simp [Cx.comp, I.len, hlen]
end
/-! the tests of the clause -/
def PIfs (X : Cx) (ifs : List Expr) (t : TT) : Prop :=
  ∀ (pins : List (Addr × Obj)) (s : Shared) (σ : St) (H : Hp) (Q : Bool → Hp → Prop), Inv X pins σ H s → t σ H Q →
    wpAny (model X.prog X.w) X.A (forIn ifs true fun c r => if r = true then do let ok ← isTrue c X.env (eval c X.env); pure (ForInStep.yield ok) else pure (ForInStep.yield r)) (TP X pins σ Q) X.xe s
def tYes : TT := fun _ H Q => Q true H
theorem pif_nil {X : Cx} : PIfs X [] tYes := fun _ _ _ H _ I h => wpAny_tests_nil ⟨H, I, h⟩
theorem compLoop_any {prog : Program} {w : World} {A : Around} {R : Result → Shared → Prop} {s : Shared} {elt target iter : Expr} {ifs : List Expr} {scope : Scope} {pos : Pos} {it acc : Value} {env : Env} (I : Nat → Shared → Prop)
    (turn : ∀ n s, I n s → wpAny (model prog w) A (pyNext it) (fun r s₁ => match r with
      | none => R (.ok .next) s₁
      | some v => wpAny (model prog w) A (letOwnedTupleGo target it v) (fun _ s₀ => wpAny (model prog w) A (assign target env v) (fun _ s₂ =>
          wpAny (model prog w) A (forIn ifs true fun c r => if r = true then do let ok ← isTrue c env (eval c env); pure (ForInStep.yield ok) else pure (ForInStep.yield r)) (fun ok s₃ =>
            if ok = true then wpAny (model prog w) A (eval elt env) (fun x s₄ =>
              wpAny (model prog w) A (call (.builtin "list.append") [acc, x]) (fun _ s₅ => ∃ m, m < n ∧ I m s₅) (fun _ _ => False) s₄) (fun _ _ => False) s₃
            else ∃ m, m < n ∧ I m s₃) (fun _ _ => False) s₂) (fun _ _ => False) s₀) (fun _ _ => False) s₁) (fun _ _ => False) s)
    (n : Nat) (h : I n s) : codeAny (model prog w) A (.compLoop (.ListComp elt [⟨target, iter, ifs, 0⟩] scope pos) 0 it acc env) R s := by
  refine codeAny_loop rfl I (fun n s hI => ?_) n h
  show wpAny _ A ((compTurn (.ListComp elt [⟨target, iter, ifs, 0⟩] scope pos) 0 it acc env).onRaise (fun x => do noteFrame x env; theTreesLotGoes x)) _ _ s
  refine wpAny_noted ?_
  rw [compTurn_list]
  refine wpAny_bind (wpAny_standAt (wpAny_bind (wpAny_mono (turn n s hI) (fun r s₁ h₁ => ?_) fun _ _ h' => h'.elim)))
  cases r with
  | none => exact wpAny_pure h₁
  | some v =>
    refine wpAny_bind (wpAny_mono h₁ (fun _ s₀ h₀ => ?_) fun _ _ h' => h'.elim)
    refine wpAny_bind (wpAny_mono h₀ (fun _ s₂ h₂ => wpAny_bind (wpAny_mono h₂ (fun ok s₃ h₃ => ?_) fun _ _ h' => h'.elim)) fun _ _ h' => h'.elim)
    cases ok with
    | false => exact wpAny_pure ⟨rfl, h₃⟩
    | true =>
      exact wpAny_bind (wpAny_bind (wpAny_mono h₃ (fun x s₄ h₄ => wpAny_bind (wpAny_mono h₄ (fun _ s₅ h₅ => wpAny_pure (wpAny_pure ⟨rfl, h₅⟩)) fun _ _ h' => h'.elim)) fun _ _ h' => h'.elim))
/-- what a comprehension asks: an invariant over the turn, a measure and the list made so far -/
def tComp (wi : TI) (tt : TT) (te : TE) : TE := fun σ H Q => wi σ H fun J H1 => ∃ W : Nat → Nat → List V → Hp → Prop, (∃ m, W 0 m [] H1) ∧ ∀ i m ys H, W i m ys H →
  (J.stop i H ∧ ∀ p, H p = none → Q (.ref p) (upd H p (.lst ys))) ∨
  (J.go i H ∧ ys.length < sizeLine ∧ ∃ N : List V → Hp → Prop, (∀ ys' H', N ys' H' → ∃ m', m' < m ∧ W (i + 1) m' ys' H') ∧
    ∀ x H', J.yld i H x H' → tt (some x :: σ) H' fun b H2 => if b = true then te (some x :: σ) H2 fun y H3 => N (ys ++ [y]) H3 else N ys H2)
section
variable {X : Cx} {M : List Str} {scope : Scope} {x : Str} {px pos : Pos} {elt iter : Expr} {ifs : List Expr} {wi : TI} {tt : TT} {te : TE}
theorem comp_core {sc : Scope} {use : Option (Value → Sem Unit)} {QQ : Value → Shared → Prop} {Q : VK} {pins : List (Addr × Obj)} {s : Shared} {σ : St} {H : Hp} {cpos : Pos} (hsc : X.env.scope = sc) (S : CpScope sc x scope) (hx : x ∉ M) (h0 : (".0" : Str) ∉ M) (hN : M.Nodup) (hlen : M.length = X.N.length) (hM : ∀ (j : Nat) y, M[j]? = some y → X.N[j]? = some y ∨ scope.names.lookup y = none) (hc : X.calm = true) (hi : PI X (.Name x px) iter wi)
    (ht : ∀ C s H ex, PIfs (X.comp M scope x C s H ex) ifs tt) (he : ∀ C s H ex, PE (X.comp M scope x C s H ex) elt te) (I : Inv X pins σ H s) (h : tComp wi tt te σ H Q)
    (fin : ∀ (D C : Addr) (s4 : Shared) (H4 : Hp), C ≠ X.env.locals → (∀ y c, X.env.cells.lookup y = some c → c ≠ C) → (∀ p ∈ X.pn ++ pins, p.1 ≠ C) → X.s₀.heap.objs.size ≤ C → H4 C = none → (∃ m, s4.heap.Ns C m) →
      (∀ h', Heap.SameBut C s4.heap h' → Inv X pins σ H4 { s4 with heap := h' }) → Q (.ref D) H4 → compPost (model X.prog X.w) X.A X.xe use QQ (.ref D) C (.ok .next) s4)
    (hs : ∀ v, foldedSetIterable iter X.env v = pure v) :
    wpAny (model X.prog X.w) X.A (comprehension (.ListComp elt [⟨.Name x px, iter, ifs, 0⟩] scope pos) scope X.env cpos (newList []) false (eval iter X.env) use) QQ X.xe s := by
  subst hsc
  have hnames := S.nam
  refine wpAny_comprehension_free (use := use) rfl hs (closure_is (S.has I.ok)) S.kind hnames (thn (hi pins s σ H _ I h) fun v s1 h1 => thn h1 fun itv s2 h2 => ?_)
  obtain ⟨it, fp, tn, J, H2, e, I2, T, st2, f2, W, ⟨m0, w0⟩, turn⟩ := h2
  subst e
  refine wpAny_newObj_type (wpAny_newFunctionEnv S.cell (by intro y hy; simp at hy) (fun h₁ hns₁ hsb₁ => ?_) S.kind)
  dsimp only at hns₁ hsb₁ ⊢
  generalize hG : s2.heap.push { cls := .type "list", dict := none, data := .seq ([] : List Value).toArray } = G at hns₁ hsb₁ ⊢
  have hC : G.objs.size = s2.heap.objs.size + 1 := by rw [← hG, Heap.size_push]
  have hDC : s2.heap.objs.size ≠ G.objs.size := by omega
  have below : ∀ b, b < s2.heap.objs.size → b ≠ G.objs.size ∧ b ≠ s2.heap.objs.size := fun b hb => ⟨by omega, by omega⟩
  have old : ∀ b o, s2.heap.get? b = some o → h₁.get? b = some o := fun b o e => hsb₁.extBut b o (below b (Heap.lt_size e)).1 (Heap.get?_push_of_some _ (hG ▸ Heap.get?_push_of_some _ e))
  have hacc : h₁.get? s2.heap.objs.size = some { cls := .type "list", data := .seq ([] : List Value).toArray } := hsb₁.extBut _ _ hDC (Heap.get?_push_of_some _ (hG ▸ Heap.get?_push_size _ rfl))
  have hlt : ∀ b ∈ fp, b < s2.heap.objs.size := fun b hb => by
    obtain ⟨o, e, _⟩ := T.obj _ _ st2 b hb
    exact Heap.lt_size e
  have ctop : ∀ y c, (clGo X.env scope.names []).lookup y = some c → c < s2.heap.objs.size := fun y c e => by
    obtain ⟨v, q⟩ := I2.cell y c (S.cells I2.ok e)
    exact q.lt
  have hCle : s2.heap.objs.size ≤ G.objs.size := by omega
  have IY : ∀ t1, Inv (X.comp M scope x G.objs.size s2 H2 fp) [] (none :: σ) H2 { s2 with heap := h₁, toks := t1 } := fun t1 => S.inv hx h0 hlen hM I2 hCle f2 hlt old hns₁
  have nost : ∀ b, s2.heap.objs.size ≤ b → b ∉ frs X.stack := fun b hb z => by
    rcases List.mem_cons.mp (I2.stkSub b z) with q | q
    · exact Nat.not_le.mpr I2.lt (q ▸ hb)
    · exact I2.nofs hb q
  have hD : s2.heap.objs.size ∉ frs X.stack := nost _ (Nat.le_refl _)
  have ptop : ∀ {pl : List (Addr × Obj)} {H' : Hp}, (∀ b ∈ fp, H' b = none) → (∀ p ∈ pl, p.1 ∉ fp) → ∀ b ∈ fp, FpOk (X.comp M scope x G.objs.size s2 H2 fp) pl H' b := fun {pl H'} hn hp b hb =>
    ⟨hn b hb, fun z => (below b (hlt b hb)).1 z, fun z => (S.ok I2 hCle f2 hlt).exfs b hb z, .inl hb, fun y c e => (f2 b hb).2.2.2.2.1 y c (S.cells I2.ok e), fun p hp' z => hp p hp' (z ▸ hb)⟩
  have Dfp : s2.heap.objs.size ∉ fp := fun z => Nat.lt_irrefl _ (hlt _ z)
  have loop : ∀ t1, codeAny (model X.prog X.w) X.A (.compLoop (.ListComp elt [⟨.Name x px, iter, ifs, 0⟩] scope pos) 0 (.ref it) (.ref s2.heap.objs.size) (compEnvC scope (clGo X.env scope.names []) G.objs.size X.env))
      (compPost (model X.prog X.w) X.A X.xe use QQ (.ref s2.heap.objs.size) G.objs.size) { s2 with heap := h₁, toks := t1 } := by
    intro t1
    refine compLoop_any (fun n s' => ∃ i o H' ys its k, Inv (X.comp M scope x G.objs.size s2 H2 fp) [(s2.heap.objs.size, { cls := .type "list", data := .seq its k })] (o :: σ) H' s' ∧ tn i s'.heap ∧ (∀ b ∈ fp, H' b = none) ∧ Vals ys its.toList ∧ ys.length ≤ sizeLine ∧ W i n ys H')
      ?_ m0 ⟨0, none, H2, [], #[], 0, ?_, T.keep _ _ _ st2 fun b _ o e => old b o e, fun b hb => (f2 b hb).1, .nil, Nat.zero_le _, w0⟩
    · rintro n s3 ⟨i, o, H3, ys, its, k, I3, st3, fr3, vs3, z3, w3⟩
      have pD : ∀ p ∈ [(s2.heap.objs.size, ({ cls := .type "list", data := .seq its k } : Obj))], p.1 ∉ fp := fun p hp => by
        have e : p = _ := List.mem_singleton.mp hp
        subst e; exact Dfp
      rcases turn i n ys H3 w3 with ⟨stop, qn⟩ | ⟨go, hz, N, hN', step⟩
      · refine wpAny_mono (T.done (X.comp M scope x G.objs.size s2 H2 fp) rfl rfl rfl hc i _ s3 (o :: σ) H3 (fun _ _ => False) I3 (ptop fr3 pD) st3 stop) (fun r s4 ⟨hr, I4⟩ => ?_) fun _ _ f => f
        subst hr
        obtain ⟨m4, hn4, _⟩ := I4.loc
        obtain ⟨eD, nD, _⟩ := I4.pin _ (List.mem_singleton.mpr rfl)
        have nC : H3 G.objs.size = none := I4.free
        refine fin s2.heap.objs.size G.objs.size s4 (upd H3 s2.heap.objs.size (.lst ys)) (fun z => Nat.not_le.mpr I2.lt (z ▸ hCle)) (fun y c e z => ?_) (fun p hp z => ?_) (Nat.le_trans I2.sz hCle) (by rw [upd_ne (Ne.symm hDC)]; exact nC) ⟨m4, hn4⟩ (fun h' hs' => ?_) (qn _ nD)
        · obtain ⟨v, q⟩ := I2.cell y c e
          exact Nat.not_le.mpr q.lt (z ▸ hCle)
        · exact Nat.not_le.mpr (Heap.lt_size (I2.pin p hp).1) (z ▸ hCle)
        have eD' : h'.get? s2.heap.objs.size = some { cls := .type "list", data := .seq its k } := hs'.extBut _ _ hDC eD
        have stp : ∀ b o, s2.heap.get? b = some o → b ≠ G.objs.size ∧ b ≠ s2.heap.objs.size := fun b o e => below b (Heap.lt_size e)
        have un : Un (frs X.stack) fp H2 (upd H3 s2.heap.objs.size (.lst ys)) s2.heap h' := by
          have B := I4.base
          refine ⟨fun b o e n1 n2 n3 => hs'.extBut _ _ (stp b o e).1 (B.keep b o e n1 n2 n3), fun b o e n1 n2 n3 => ?_, fun b o e n1 n3 => ?_, fun b o e n3 => ?_, fun b xs e => ?_, fun b o u e => ?_, fun b ps e => ?_⟩
          · obtain ⟨sl, q⟩ := B.slot b o e n1 n2 n3
            exact ⟨sl, hs'.extBut _ _ (stp b o e).1 q⟩
          · rw [upd_ne (stp b o e).2]; exact B.free b o e n1 n3
          · obtain ⟨o', q⟩ := B.there b o e n3
            exact ⟨o', hs'.extBut _ _ (stp b o e).1 q⟩
          · have q := B.tups b xs e
            rw [upd_ne (ne_of_none q nD)]; exact q
          · have q := B.frzs b o u e
            rw [upd_ne (ne_of_none q nD)]; exact q
          · obtain ⟨more, q⟩ := B.tbls b ps e
            exact ⟨more, by rw [upd_ne (ne_of_none q nD)]; exact q⟩
        have hok : HOk X.prog X.w (upd H3 s2.heap.objs.size (.lst ys)) h' := fun b u e => by
          by_cases hb : b = s2.heap.objs.size
          · subst hb
            rw [upd_same] at e
            cases e
            exact ⟨z3, its.toList, k, vs3, by simpa using eD'⟩
          · rw [upd_ne hb] at e
            refine (I4.hok b u e).stay (fun c v hc' q => hs'.extBut _ _ (fun z => ?_) q) (fun c q => by rw [upd_ne (ne_of_none q nD)]; exact q) fun c xs q => by rw [upd_ne (ne_of_none q nD)]; exact q
            rcases hc' with r | r
            · rw [r] at z; rw [z, nC] at e; cases e
            · rw [z, nC] at r; cases r
        refine I2.call' (s' := { s4 with heap := h' }) I4.os un hok I4.bare (fun b hb => ?_)
        obtain ⟨f0, f1, f2', f3, f4, f5⟩ := f2 b hb
        exact ⟨f3, f1, f4, f5⟩
      · refine wpAny_mono (T.item (X.comp M scope x G.objs.size s2 H2 fp) rfl rfl rfl hc i _ s3 (o :: σ) H3 (fun _ _ => False) I3 (ptop fr3 pD) st3 go) (fun r s4 ⟨u, hr, h4⟩ => ?_) fun _ _ f => f
        subst hr
        refine wpAny_mono h4 (fun _ s5 ⟨v5, H5, I5, r5, y5, st5, fr5⟩ => ?_) fun _ _ f => f
        have I5' := I5.pinned (ptop fr5 pD) (T.obj _ _ st5)
        have hnd : (X.comp M scope x G.objs.size s2 H2 fp).N.Nodup := List.nodup_cons.mpr ⟨hx, hN⟩
        have hloc : (relabel scope X.env).names.lookup x = some .local := lookup_relabel_local S.own
        refine wpAny_mono (pg_name (X := X.comp M scope x G.objs.size s2 H2 fp) (i := 0) (pos := px) hnd rfl (.inl hloc) (.inr hloc) _ s5 (o :: σ) H5 v5 u (fun σ6 H6 => σ6 = some v5 :: σ ∧ H6 = H5) I5' r5 ⟨rfl, rfl⟩) (fun _ s6 ⟨σ6, H6, I6, e6, e6'⟩ => ?_) fun _ _ f => f
        subst e6 e6'
        have later : ∀ {σ7 : St} {H7 : Hp} {s7 : Shared}, Inv (X.comp M scope x G.objs.size s2 H2 fp) ([(s2.heap.objs.size, { cls := .type "list", data := .seq its k })] ++ pinsAt fp s5.heap) σ7 H7 s7 → tn (i + 1) s7.heap ∧ (∀ b ∈ fp, H7 b = none) := fun {σ7 H7 s7} I7 =>
          ⟨T.keep _ _ _ st5 fun b hb o e => (I7.pin (b, o) (List.mem_append_right _ (List.mem_append_right _ (mem_pinsAt hb e)))).1, fun b hb => by
            obtain ⟨o, e, d⟩ := T.obj _ _ st5 b hb
            exact (I7.pin (b, o) (List.mem_append_right _ (List.mem_append_right _ (mem_pinsAt hb e)))).2.1⟩
        refine wpAny_mono (ht _ _ _ _ _ s6 (some v5 :: σ) H6 _ I6 (step v5 H6 y5)) (fun ok s7 ⟨H7, I7, q7⟩ => ?_) fun _ _ f => f
        cases ok with
        | false =>
          obtain ⟨m', hm, w7⟩ := hN' _ _ q7
          exact ⟨m', hm, i + 1, some v5, H7, ys, its, k, I7.unpinned, (later I7).1, (later I7).2, vs3, z3, w7⟩
        | true =>
          refine wpAny_mono (he _ _ _ _ _ s7 (some v5 :: σ) H7 _ I7 q7) (fun uy s8 ⟨y8, H8, I8, r8, q8⟩ => ?_) fun _ _ f => f
          obtain ⟨m', hm, w8⟩ := hN' _ _ q8
          obtain ⟨eD, nD, _⟩ := I8.pin (s2.heap.objs.size, { cls := .type "list", data := .seq its k }) (List.mem_append_right _ (List.mem_append_left _ (List.mem_singleton.mpr rfl)))
          have hsz : its.size ≤ sizeLine := by
            have := vs3.length
            have e2 : its.toList.length = its.size := by simp
            omega
          refine wpAny_list_append_plain (hsz := hsz) ⟨k, eD⟩ fun h9 pl9 sb9 => ?_
          obtain ⟨k9, e9⟩ := pl9
          obtain ⟨st8, fr8⟩ := later I8
          have I8' : Inv (X.comp M scope x G.objs.size s2 H2 fp) [] (some v5 :: σ) H8 s8 := I8.pins_of fun p hp => nomatch hp
          have I9 : Inv (X.comp M scope x G.objs.size s2 H2 fp) [] (some v5 :: σ) H8 { s8 with heap := h9 } :=
            I8'.turned (t' := s8.toks) (fun b o hb e => sb9.extBut b o hb e) nD hDC (.inr (Nat.le_refl _)) (fun y c e z => by have := ctop y c e; rw [z] at this; exact Nat.lt_irrefl _ this) fun p hp => nomatch hp
          refine ⟨m', hm, i + 1, some v5, H8, ys ++ [y8], its.push uy, k9, I9.pins_of fun p hp => ?_, T.keep _ _ _ st8 fun b hb o e => sb9.extBut b o (fun z => Dfp (z ▸ hb)) e, fr8, ?_, ?_, w8⟩
          · have e : p = _ := List.mem_singleton.mp hp
            subst e
            exact ⟨e9, nD, hDC, hD, fun v z => by cases z⟩
          · rw [Array.toList_push]
            exact vs3.append (.cons r8 .nil)
          · rw [List.length_append, List.length_singleton]; omega
    · refine (IY t1).pins_of fun p hp => ?_
      have e : p = _ := List.mem_singleton.mp hp
      subst e
      exact ⟨hacc, I2.hok.fresh (Nat.le_refl _), hDC, hD, fun v z => by cases z⟩
  exact codeAny_compStart_list (loop _) (T.self _ 0 _ _ _ (T.keep _ _ _ st2 fun b _ o e => old b o e) (loop _))
theorem pe_comp {sc : Scope} (hsc : X.env.scope = sc) (S : CpScope sc x scope) (hx : x ∉ X.N) (h0 : (".0" : Str) ∉ X.N) (hN : X.N.Nodup) (hc : X.calm = true) (hi : PI X (.Name x px) iter wi)
    (ht : ∀ C s H ex, PIfs (X.comp X.N scope x C s H ex) ifs tt) (he : ∀ C s H ex, PE (X.comp X.N scope x C s H ex) elt te) (hs : ∀ v, foldedSetIterable iter X.env v = pure v := by intro _; rfl) :
    PE X (.ListComp elt [⟨.Name x px, iter, ifs, 0⟩] scope pos) (tComp wi tt te) := by
  intro pins s σ H Q I h
  rw [eval_ListComp]
  exact comp_core (use := none) (M := X.N) hsc S hx h0 hN rfl (fun _ _ e => .inl e) hc hi ht he I h (fun D C s4 H4 _ _ _ _ _ hn inv q => let ⟨m, hn⟩ := hn; ⟨m, hn, fun h' hs' => ⟨.ref D, H4, inv h' hs', rfl, q⟩⟩) hs
theorem zip_or {scope : Scope} : ∀ {M N : List Str}, (M.zip N).all (fun p => p.1 == p.2 || (scope.names.lookup p.1).isNone) = true → M.length = N.length → ∀ (j : Nat) y, M[j]? = some y → N[j]? = some y ∨ scope.names.lookup y = none
  | [], _, _, _, j, y, e => by simp at e
  | _ :: _, [], _, hl, _, _, _ => by cases hl
  | m :: M, n :: N, h, hl, 0, y, e => by
    have e' : m = y := Option.some.inj e
    subst e'
    rw [List.zip_cons_cons, List.all_cons, Bool.and_eq_true, Bool.or_eq_true] at h
    rcases h.1 with z | z
    · exact .inl (by rw [show n = m from (eq_of_beq z).symm]; rfl)
    · exact .inr (Option.isNone_iff_eq_none.mp z)
  | m :: M, n :: N, h, hl, j + 1, y, e => by
    rw [List.zip_cons_cons, List.all_cons, Bool.and_eq_true] at h
    exact zip_or h.2 (Nat.succ.inj hl) j y e
theorem pe_compS {sc : Scope} (M N0 : List Str) (hN0 : X.N = N0) (hsc : X.env.scope = sc) (S : CpScope sc x scope) (hx : x ∉ M) (h0 : (".0" : Str) ∉ M) (hN : M.Nodup) (hlen : M.length = N0.length) (hM : (M.zip N0).all (fun p => p.1 == p.2 || (scope.names.lookup p.1).isNone) = true) (hc : X.calm = true) (hi : PI X (.Name x px) iter wi)
    (ht : ∀ C s H ex, PIfs (X.comp M scope x C s H ex) ifs tt) (he : ∀ C s H ex, PE (X.comp M scope x C s H ex) elt te) (hs : ∀ v, foldedSetIterable iter X.env v = pure v := by intro _; rfl) :
    PE X (.ListComp elt [⟨.Name x px, iter, ifs, 0⟩] scope pos) (tComp wi tt te) := by
  subst hN0
  intro pins s σ H Q I h
  rw [eval_ListComp]
  exact comp_core (use := none) (M := M) hsc S hx h0 hN hlen (zip_or hM hlen) hc hi ht he I h (fun D C s4 H4 _ _ _ _ _ hn inv q => let ⟨m, hn⟩ := hn; ⟨m, hn, fun h' hs' => ⟨.ref D, H4, inv h' hs', rfl, q⟩⟩) hs
end
/-- over a range -/
theorem comp_range {n : Nat} {tt : TT} {te : TE} {Q : VK} {σ : St} {H : Hp} (Pv : Nat → List V → Hp → Prop) (hn : n ≤ 1000) (h0 : Pv 0 [] H) (hl : ∀ i ys H, Pv i ys H → ys.length ≤ i)
    (hs : ∀ i ys H, i < n → Pv i ys H → tt (some (.int (i : Int)) :: σ) H fun b H2 => if b = true then te (some (.int (i : Int)) :: σ) H2 fun y H3 => Pv (i + 1) (ys ++ [y]) H3 else Pv (i + 1) ys H2)
    (hd : ∀ ys H, Pv n ys H → ∀ p, H p = none → Q (.ref p) (upd H p (.lst ys))) :
    ∃ W : Nat → Nat → List V → Hp → Prop, (∃ m, W 0 m [] H) ∧ ∀ i m ys H, W i m ys H → ((Itr 0 n).stop i H ∧ ∀ p, H p = none → Q (.ref p) (upd H p (.lst ys))) ∨
      ((Itr 0 n).go i H ∧ ys.length < sizeLine ∧ ∃ N : List V → Hp → Prop, (∀ ys' H', N ys' H' → ∃ m', m' < m ∧ W (i + 1) m' ys' H') ∧
        ∀ x H', (Itr 0 n).yld i H x H' → tt (some x :: σ) H' fun b H2 => if b = true then te (some x :: σ) H2 fun y H3 => N (ys ++ [y]) H3 else N ys H2) := by
  refine ⟨fun i m ys H => m = n - i ∧ i ≤ n ∧ Pv i ys H, ⟨n, by simp, Nat.zero_le _, h0⟩, ?_⟩
  rintro i m ys H ⟨rfl, hi, p⟩
  by_cases hlt : i < n
  · refine .inr ⟨hlt, small1000 (by have := hl i ys H p; omega), Pv (i + 1), fun ys' H' p' => ⟨n - (i + 1), by omega, rfl, hlt, p'⟩, fun x H' y => ?_⟩
    obtain ⟨e, y⟩ := y
    subst e y
    rw [Int.zero_add]
    exact hs i ys _ hlt p
  · have e : i = n := by omega
    subst e
    exact .inl ⟨Nat.le_refl _, hd ys H p⟩
theorem st_comp_range {ta : TE} {n : Nat} {tt : TT} {te : TE} {Q : VK} {σ : St} {H : Hp} (hn : n ≤ 1000) (e : ∀ P : V → Hp → Prop, P (.int (n : Int)) H → ta σ H P) (Pv : Nat → List V → Hp → Prop) (h0 : Pv 0 [] H) (hl : ∀ i ys H, Pv i ys H → ys.length ≤ i)
    (hs : ∀ i ys H, i < n → Pv i ys H → tt (some (.int (i : Int)) :: σ) H fun b H2 => if b = true then te (some (.int (i : Int)) :: σ) H2 fun y H3 => Pv (i + 1) (ys ++ [y]) H3 else Pv (i + 1) ys H2)
    (hd : ∀ ys H, Pv n ys H → ∀ p, H p = none → Q (.ref p) (upd H p (.lst ys))) : tComp (iRng1 (tCons ta tNil)) tt te σ H Q :=
  e _ ⟨(n : Int), rfl, by omega, by omega, comp_range Pv hn h0 hl hs hd⟩
/-! int.bit_length -/
def rBitLen : V → List V → Hp → VK → Prop := fun x vs H Q => ∃ i, x = .int i ∧ vs = [] ∧ Q (.int (Builtin.Int.intBits i : Nat)) H
end L2

/-! Own mathematics: the places of a number's bits. -/
namespace Tw
/-- the places below k at which n has a 1, rising -/
def plc (n : Nat) : Nat → List Nat
  | 0 => []
  | k + 1 => if n.testBit k then plc n k ++ [k] else plc n k
/-- what the places are worth together -/
def wor : List Nat → Nat
  | [] => 0
  | k :: r => 2 ^ k + wor r
theorem take_succ_get {α : Type} {xs : List α} {i : Nat} {x : α} (h : xs[i]? = some x) : xs.take (i + 1) = xs.take i ++ [x] := by
  rw [List.take_add_one, h]; rfl
end Tw

set_option Elab.async false
set_option linter.all false
set_option maxRecDepth 100000
namespace L2
open PySem PySem.Spec PyProof.Rows
/-! Steps of readings, second part. -/
def rLen (K : PySem.W.Frag) : List V → Hp → VK → Prop := fun xs H Q => (∃ p ys, xs = [.ref p] ∧ (SqL K H p ys ∨ SqT K H p ys) ∧ Q (.int (ys.length : Nat)) H) ∨ ∃ z, xs = [.str z] ∧ z.length ≤ sizeLine ∧ Q (.int (z.length : Nat)) H
theorem call_lenQ {X : Cx} : CallR X (.builtin "len") (rLen X.K) := call_len_seq.or call_len_str
section
variable {K : PySem.W.Frag} {H : Hp} {Q : VK} {D : Ends} {σ : St} {te : TE} {tA : TA} {g : TG} {tb : TS} {v w y : V} {a b l : Addr} {i j : Int} {xs ys zs : List V} {n : Nat} {T : String} {r : V → List V → Hp → VK → Prop}
def sForL (K : PySem.W.Frag) (g : TG) (tb : TS) (D : Ends) (σ : St) : V → Hp → Prop := fun x H => ∃ a, x = .ref a ∧ (∃ xs, SqL K H a xs) ∧ ∃ W : Nat → Nat → St → Hp → Prop, (∃ m, W 0 m σ H) ∧ ∀ i m σ H, W i m σ H →
  ((Itl K a).stop i H ∧ D.nx σ H) ∨ ((Itl K a).go i H ∧ ∃ N : St → Hp → Prop, (∀ σ' H', N σ' H' → ∃ m', m' < m ∧ W (i + 1) m' σ' H') ∧ ∀ x H', (Itl K a).yld i H x H' → g x σ H' fun σ2 H2 => tb { D with nx := N, ct := N, bk := D.nx } σ2 H2)
theorem st_forE {tl : TE} (h : tl σ H (sForL K g tb D σ)) : tFor (iList K tl) g tb D σ H := h
theorem st_forAt (s : SqL K H a xs) (Pv : Nat → St → Hp → Prop) (h0 : Pv 0 σ H) (hl : ∀ i σ H, i ≤ xs.length → Pv i σ H → SqL K H a xs)
    (hs : ∀ i x σ H, xs[i]? = some x → Pv i σ H → g x σ H fun σ2 H2 => tb { D with nx := Pv (i + 1), ct := Pv (i + 1), bk := D.nx } σ2 H2) (hd : ∀ σ H, Pv xs.length σ H → D.nx σ H) : sForL K g tb D σ (.ref a) H :=
  ⟨a, rfl, ⟨xs, s⟩, for_list Pv h0 hl hs hd⟩
theorem st_cat (h1 : H l = some (.lst xs)) (h2 : H b = some (.lst zs)) (hz : xs.length + zs.length ≤ 1000) (q : ∀ p, H p = none → Q (.ref p) (upd H p (.lst (xs ++ zs)))) : rCat (.ref l) (.ref b) H Q :=
  ⟨l, b, xs, zs, rfl, rfl, h1, h2, Nat.le_of_lt (small1000 hz), q⟩
theorem st_bm (h : te σ H fun x H1 => tyV K T x H1 ∧ tA σ H1 fun xs H2 => r x xs H2 Q) : tBM K T r te tA σ H Q := h
theorem st_tyS {x : Str} {P : Prop} (h : P) : tyV K "str" (.str x) H ∧ P := ⟨rfl, h⟩
theorem st_tyL {P : Prop} (s : SqL K H a xs) (h : P) : tyV K "list" (.ref a) H ∧ P := ⟨.inl ⟨rfl, xs, s⟩, h⟩
theorem st_append (h : H l = some (.lst xs)) (hz : xs.length ≤ 1000) (q : Q .non (upd H l (.lst (xs ++ [y])))) : rAppend (.ref l) [y] H Q := ⟨l, xs, y, rfl, rfl, h, small1000 hz, q⟩
theorem st_lenL (s : SqL K H a xs) (h : Q (.int (xs.length : Nat)) H) : rLen K [.ref a] H Q := .inl ⟨a, xs, rfl, .inl s, h⟩
end
end L2

set_option Elab.async false
set_option linter.all false
set_option maxRecDepth 100000
namespace L2
open PySem PySem.Spec PyProof.Rows
/-! Exceptions: raised by own classes under ValueError, passed on through defs, caught by a name. -/
abbrev bmVE : List Value := [.type "ValueError", .type "Exception", .type "BaseException", .type "object"]
/-- an own exception class of the text, named x -/
structure ExcK (K : PySem.W.Frag) (C : Addr) : Prop where
  exc : PySem.W.excIn K C bmVE "ValueError.__new__" = true
  ga : PySem.W.findIn K (.ref C) "__getattribute__" = some (some (.builtin "BaseException.__getattribute__"))
  gt : PySem.W.findIn K (.ref C) "__getattr__" = some none
  ca : PySem.W.findIn K (.ref C) "__class__" = some (some (.builtin "object.__class__"))
  cg : PySem.W.specialIn K (.builtin "object.__class__") "__get__" = some (some (.builtin "getset_descriptor.__get__"))
  tk : PySem.W.takesIn K (.builtin "object.__class__") = some true
  mo : PySem.W.mroIn K C (.type "object") = some true
  mb : PySem.W.mroIn K C (.type "BaseException") = some true
structure ExcC (K : PySem.W.Frag) (mg : Str → Option Value) (x : Str) (C : Addr) : Prop where
  at_ : mg x = some (.ref C)
  k : ExcK K C
/-- an exception in flight behind a call: B holds what stood at the raise, the frames left out -/
structure Flown (P : Program) (w : World) (outer : List Env) (H : Hp) (s : Shared) (E : XK) (ea : Addr) (cls : Value) (H' : Hp) (B : Heap) (s' : Shared) : Prop where
  os : s'.os = s.os
  bare : AllBare s'.gens
  un : Un (frs outer) [] H H' s.heap s'.heap
  hok : HOk P w H' s'.heap
  fly : ∃ a0, Heap.FlyingW B outer ea cls a0 s'.heap
  old : ∀ b o, s.heap.get? b = some o → b ∉ frs outer → ∃ o', B.get? b = some o' ∧ (H b = none → o' = o)
  trk : ∀ b u o, H' b = some u → s'.heap.get? b = some o → B.get? b = some o
  want : E cls none H'
def CXE (P : Program) (w : World) : CXT := fun outer H s E e s' => ∃ (ea : Addr) (cls : Value) (H' : Hp) (B : Heap), e = .ref ea ∧ Flown P w outer H s E ea cls H' B s'
section
variable {P : Program} {w : World} {X : Cx} {pins : List (Addr × Obj)} {σ : St} {H H' : Hp} {s s' : Shared} {E : XK} {ea : Addr} {cls : Value} {B : Heap} {outer : List Env}
end
/-- raising: what a body's context must let through -/
def Raises (X : Cx) (C : Addr) (E : XK) : Prop := ∀ (pins : List (Addr × Obj)) (σ : St) (H : Hp) (s : Shared) (h' : Heap) (e : Addr) (args : List Value), Inv X pins σ H s → Heap.MadeExcOf s.heap h' e (.ref C) args → E (.ref C) none H → X.xe (.ref e) { s with heap := h' }
section
variable {X : Cx} {x : Str} {C : Addr} {E : XK} {np cpos pos : Pos} {e : Expr} {es : List Expr} {t : TA}
def tRaise (C : Addr) (E : XK) (t : TA) : TS := fun _ σ H => t σ H fun vs H1 => vs.length ≤ 1000 ∧ E (.ref C) none H1
end
/-! ### what may raise, inside try -/
def XIn (X : Cx) (pins : List (Addr × Obj)) (σ : St) (E : XK) (e : Value) (s' : Shared) : Prop := ∃ H1 s1, Inv X pins σ H1 s1 ∧ CXE X.prog X.w X.stack H1 s1 E e s'
def PEx (X : Cx) (e : Expr) (t : XK → TE) : Prop :=
  ∀ (pins : List (Addr × Obj)) (s : Shared) (σ : St) (H : Hp) (Q : VK) (E : XK), Inv X pins σ H s → t E σ H Q → wpAny (model X.prog X.w) X.A (eval e X.env) (EP X pins σ Q) (XIn X pins σ E) s
def PSx (X : Cx) (st : Stmt) (t : XK → TS) : Prop :=
  ∀ (pins : List (Addr × Obj)) (s : Shared) (σ : St) (H : Hp) (D : Ends) (E : XK), Inv X pins σ H s → t E D σ H → wpAny (model X.prog X.w) X.A (exec st X.env) (SP X pins D) (XIn X pins σ E) s
section
variable {X : Cx} {k j : Nat} {ps : List Str} {sp : Sp} {x : Str} {p pos : Pos} {e : Expr} {es : List Expr} {t : TA}
end
/-- a caught exception, as a tracked thing -/
def ExcAt (a C : Addr) (h : Heap) : Prop := ∃ o, h.get? a = some o ∧ o.cls = .ref C
def xO (a C : Addr) : HO := .ext (ExcAt a C)
/-- the context of an except suite -/
def Cx.suite (X : Cx) (ea : Addr) : Cx := { X with A := X.A.mark (some (.ref ea)), calm := false, xe := fun _ _ => False }
section
variable {X : Cx} {pins : List (Addr × Obj)} {σ : St} {H : Hp} {s : Shared}
end
/-- try: one statement that may raise; except C as n: suite -/
def tTry (K : PySem.W.Frag) (W : Addr) (i : Nat) (t : XK → TS) (ts : TS) : TS := fun D σ H =>
  t (fun cls _ H2 => ∃ C, cls = .ref C ∧ PySem.W.exmOne K (.ref C) (.ref W) = some true ∧ ∀ ea, H2 ea = none →
    ts ⟨fun σ2 H3 => D.nx (σ2.set i none) H3, D.rt, fun σ2 H3 => D.bk (σ2.set i none) H3, fun σ2 H3 => D.ct (σ2.set i none) H3⟩ (σ.set i (some (.ref ea))) (upd H2 ea (xO ea C))) D σ H
section
variable {X : Cx} {st b₀ : Stmt} {suite : List Stmt} {W : Addr} {i : Nat} {y n : Str} {np hpos pos : Pos} {t : XK → TS} {ts : TS}
end

end L2

set_option Elab.async false
set_option linter.all false
set_option maxRecDepth 100000
namespace L2
open PySem PySem.Spec PyProof.Rows PySem.Builtin PySem.Builtin.ObjectAttr PySem.Builtin.Getset_descriptor
/-! ### isinstance of a caught exception -/
section
variable {prog : Program} {w : World} {A : Around} {E : Value → Shared → Prop} {s : Shared} {K : PySem.W.Frag} {a C : Addr}
end
section
variable {X : Cx}
def rIsX (K : PySem.W.Frag) (c : V) (cv : Value) : List V → Hp → VK → Prop := fun xs H Q => ∃ a C b, xs = [.ref a, c] ∧ H a = some (xO a C) ∧ ExcK K C ∧ PySem.W.kitOne K (.ref C) cv = some b ∧ Q (.bl b) H
end
end L2

/-! Own mathematics: parities of bits, the product's sign. -/
namespace Tw
end Tw

set_option Elab.async false
set_option linter.all false
set_option maxRecDepth 100000
namespace Tw
end Tw
namespace L2
open PySem PySem.Spec PyProof.Rows
/-! Steps of readings, third part. -/
section
variable {K : PySem.W.Frag} {H : Hp} {Q : VK} {σ : St} {ta tb tc : TE} {r r' : R2} {n k : Nat} {i : Int} {p q : Bool} {a : Addr}
end
section
variable {X : Cx} {K : PySem.W.Frag}
end
section
variable {X : Cx} {K : PySem.W.Frag}
end
theorem Same.updF {H H' : Hp} {p : Addr} {o : HO} (s : Same H H') (h : H p = none) : Same H (upd H' p o) := fun b u q => by
  rw [upd_ne (ne_of_none q h)]; exact s b u q
end L2

set_option Elab.async false
set_option linter.all false
set_option maxRecDepth 100000
namespace L2
open PySem PySem.Spec PyProof.Rows
/-! all, list, str of an int; steps. -/
section
variable {X : Cx}
def rAll (K : PySem.W.Frag) : List V → Hp → VK → Prop := fun xs H Q => ∃ (p : Addr) (bs : List Bool), xs = [.ref p] ∧ SqL K H p (bs.map V.bl) ∧ Q (.bl (bs.all id)) H
/-! {}, as in the guide's dict layer -/
theorem Inv.bigD {pins : List (Addr × Obj)} {σ : St} {H : Hp} {s : Shared} (I : Inv X pins σ H s) : sysModules < s.heap.objs.size := by
  have h : mainGlobals < s.heap.objs.size := (I.mod.glob.keeps I.bk).lt
  exact Nat.lt_trans (by decide) h
def tDNew : TE := fun _ H Q => ∀ p, H p = none → Q (.ref p) (upd H p (.dK []))
theorem pe_dnew {pos : Pos} : PE X (.Dict [] [] pos) tDNew := fun pins s σ H Q I h =>
  wpAny_Dict_empty ⟨.ref s.heap.objs.size, _, I.laid (a := s.heap.objs.size) (o := .dK []) (t' := s.toks) (fun _ _ q => Heap.get?_push_of_some _ q) (Nat.le_refl _) ⟨Nat.zero_le _, beq_eq_false_iff_ne.mpr (Ne.symm (Nat.ne_of_lt I.bigD)), [], .nil, Heap.DictOf.new s.heap⟩, rfl, h _ (I.hok.fresh (Nat.le_refl _))⟩
def rLst (K : PySem.W.Frag) : List V → Hp → VK → Prop := fun xs H Q => ∃ p ys, xs = [.ref p] ∧ (SqL K H p ys ∨ SqT K H p ys) ∧ ∀ l, H l = none → Q (.ref l) (upd H l (.lst ys))
theorem call_listQ : CallR X (.type "list") (rLst X.K) := call_list_of
def rStrI : List V → Hp → VK → Prop := fun xs H Q => ∃ i, xs = [.int i] ∧ i.natAbs.log2 < 1920 ∧ Q (.str (toString i)) H
theorem call_strQ : CallR X (.type "str") rStrI := call_str_int
end
section
variable {K : PySem.W.Frag} {H : Hp} {Q : VK} {a : Addr} {xs : List V}
theorem st_yes {σ : St} {R : Bool → Hp → Prop} (h : R true H) : tYes σ H R := h
theorem st_dnew {σ : St} (q : ∀ p, H p = none → Q (.ref p) (upd H p (.dK []))) : tDNew σ H Q := q
end
end L2

set_option Elab.async false
set_option linter.all false
set_option maxRecDepth 100000
namespace L2
open PySem PySem.Spec PyProof.Rows
/-! Texts: sign by sign, enumerate, slices, join, find. -/
/-- the signs of a text -/
def Its (z : Str) : It := ⟨fun i _ => i < z.cps.size, fun i H x H' => H' = H ∧ ∃ c, z.cps[i]? = some c ∧ x = .str ⟨#[c]⟩, fun i _ => z.cps.size ≤ i⟩
/-- enumerate of a text: a new pair at each turn -/
def Ite (z : Str) : It := ⟨fun i _ => i < z.cps.size, fun i H x H' => ∃ T c, H T = none ∧ x = .ref T ∧ z.cps[i]? = some c ∧ H' = upd H T (.tup [.int (i : Int), .str ⟨#[c]⟩]), fun i _ => z.cps.size ≤ i⟩
section
variable {X : Cx} {tg : Expr}
def iStr (tl : TE) : TI := fun σ H R => tl σ H fun x H1 => ∃ z, x = .str z ∧ R (Its z) H1
def iEnumS (ta : TA) : TI := fun σ H R => ta σ H fun vs H1 => ∃ z, vs = [.str z] ∧ R (Ite z) H1
end
end L2

set_option Elab.async false
set_option linter.all false
set_option maxRecDepth 100000
namespace L2
open PySem PySem.Spec PyProof.Rows
/-! Texts as lists of signs: slices, join, find, upper, times, list, in. -/
/-- the text of these signs -/
abbrev T (l : List Nat) : V := .str ⟨l.toArray⟩
/-- the signs of l[lo:hi] -/
def cutN (l : List Nat) (lo hi : Option Int) : List Nat := (l.drop (HT.sIx l.length 0 lo)).take (HT.sIx l.length l.length hi - HT.sIx l.length 0 lo)
section
variable {X : Cx}
def rSlX : V → Option Int → Option Int → Hp → VK → Prop := fun x lo hi H Q => ∃ l, x = T l ∧ l.length ≤ 1000 ∧ Q (T (cutN l lo hi)) H
theorem len_T (l : List Nat) : (⟨l.toArray⟩ : Str).length = l.length := by simp [Str.length]
/-! join -/
theorem app_T (a b : List Nat) : (⟨a.toArray⟩ : Str) ++ ⟨b.toArray⟩ = ⟨(a ++ b).toArray⟩ := by
  show Str.mk (a.toArray ++ b.toArray) = _
  simp
theorem join_T : ∀ cs : List Nat, Txt.join ⟨([] : List Nat).toArray⟩ (cs.map fun c => (⟨[c].toArray⟩ : Str)) = ⟨cs.toArray⟩ := by
  intro cs
  show Builtin.Str.glued _ _ = _
  rw [StrLaws.glued_eq_join]
  induction cs with
  | nil => rfl
  | cons c cs ih =>
    cases cs with
    | nil => rfl
    | cons d r =>
      show (⟨[c].toArray⟩ : Str) ++ ⟨([] : List Nat).toArray⟩ ++ Str.join _ ((d :: r).map fun c => (⟨[c].toArray⟩ : Str)) = _
      rw [ih, app_T, app_T]
      simp
def rJoin (K : PySem.W.Frag) : V → List V → Hp → VK → Prop := fun x vs H Q => ∃ p cs, x = T [] ∧ vs = [.ref p] ∧ SqL K H p (cs.map fun c => T [c]) ∧ cs.length ≤ 1000 ∧ Q (T cs) H
theorem vals_T : ∀ {cs : List Nat} {us : List Value}, Vals (cs.map fun c => T [c]) us → ∃ l : List (Str × Tok), us = strValues l ∧ l.map (·.1) = cs.map fun c => (⟨[c].toArray⟩ : Str)
  | [], _, .nil => ⟨[], rfl, rfl⟩
  | c :: cs, _, .cons r rs => by
    obtain ⟨t, rfl⟩ := r
    obtain ⟨l, rfl, e⟩ := vals_T rs
    exact ⟨(_, t) :: l, rfl, by rw [List.map_cons, e]; rfl⟩
theorem mt_join : MtR X "str.join" (rJoin X.K) := by
  intro pins s σ H x xs v us Q I rx rs h
  obtain ⟨p, cs, rfl, rfl, hs, hl, q⟩ := h
  obtain ⟨t, rfl⟩ := rx
  obtain ⟨u, rfl, ru⟩ := Vals.one rs
  cases (show u = Value.ref p from ru)
  obtain ⟨its, rv, pl, hz⟩ := I.list hs
  obtain ⟨l, rfl, e⟩ := vals_T rv
  refine SC.join pl.isList e ?_ fun t' k => ?_
  · unfold JoinOk
    rw [Bool.not_eq_true', StrLaws.joinFits (B := 1)]
    · intro y hy
      obtain ⟨c, _, rfl⟩ := List.mem_map.mp hy
      exact Nat.le_refl 1
    · rw [List.length_map]
      show cs.length * 1 + cs.length * 0 ≤ 16777216
      omega
  · rw [join_T]
    exact ⟨T cs, H, I.tok k, ⟨_, rfl⟩, q⟩
/-! find, upper, times -/
def rFind : V → List V → Hp → VK → Prop := fun x vs H Q => ∃ a b, x = .str a ∧ vs = [.str b] ∧ Q (.int (Txt.find a b)) H
def rUpper : V → List V → Hp → VK → Prop := fun x vs H Q => ∃ a, x = .str a ∧ vs = [] ∧ (Txt.upper a).length ≤ 1000 ∧ Q (.str (Txt.upper a)) H
def rMulS : R2 := fun x y H Q => ∃ a i, x = .str a ∧ y = .int i ∧ MulOk a i ∧ Q (.str (Txt.mul a i)) H
def rAddS : R2 := fun x y H Q => ∃ i j, x = .str i ∧ y = .str j ∧ i.length + j.length ≤ sizeLine ∧ Q (.str (i ++ j)) H
theorem op_addS : OpR X (binaryOp .Add) rAddS := op_add_str
def rInS : R2 := fun x y H Q => ∃ i j, x = .str i ∧ y = .str j ∧ Q (.bl (!(Builtin.Str.occurrences j i 0 j.length 1).isEmpty)) H
def rNotInS : R2 := fun x y H Q => ∃ i j, x = .str i ∧ y = .str j ∧ Q (.bl (!(!(Builtin.Str.occurrences j i 0 j.length 1).isEmpty))) H
/-! list of a text -/
def rLstS : List V → Hp → VK → Prop := fun xs H Q => ∃ l, xs = [T l] ∧ l.length ≤ 1000 ∧ ∀ p, H p = none → Q (.ref p) (upd H p (.lst (l.map fun c => T [c])))
end
/-! one sign in a text -/
/-! steps -/
section
variable {K : PySem.W.Frag} {H : Hp} {Q : VK} {a : Addr} {l k : List Nat} {c : Nat} {σ : St}
theorem st_addS (h : l.length + k.length ≤ 1000) (q : Q (T (l ++ k)) H) : rAddS (T l) (T k) H Q := ⟨_, _, rfl, rfl, by rw [len_T, len_T]; exact Nat.le_of_lt (small1000 h), by rw [app_T]; exact q⟩
theorem st_ixS {i : Int} {c : Nat} (h : l.length ≤ 1000) (e : atI l i = some c) (q : Q (T [c]) H) : rIxS (T l) (.int i) H Q := ⟨_, i, c, rfl, rfl, by rw [len_T]; exact Nat.le_of_lt (small1000 h), e, q⟩
theorem str_T (z : Str) : z = ⟨z.cps.toList.toArray⟩ := by cases z; simp
theorem st_joinS {cs : List Nat} (s : SqL K H a (cs.map fun c => T [c])) (h : cs.length ≤ 1000) (q : Q (T cs) H) : rJoin K (T []) [.ref a] H Q := ⟨a, cs, rfl, rfl, s, h, q⟩
end
end L2

set_option Elab.async false
set_option linter.all false
set_option maxRecDepth 100000
namespace Tw
open PySem L2
/-! rows as texts: signs, words -/
def sg : Bool → Bool → Nat
  | false, false => 46
  | true, false => 120
  | false, true => 122
  | true, true => 121
def signs (x z n : Nat) : List Nat := (List.range n).map fun k => sg (x.testBit k) (z.testBit k)
theorem signs_len (x z n : Nat) : (signs x z n).length = n := by unfold signs; rw [List.length_map, List.length_range]
theorem signs_succ (x z n : Nat) : signs x z (n + 1) = signs x z n ++ [sg (x.testBit n) (z.testBit n)] := by
  unfold signs
  rw [List.range_succ, List.map_append]
  rfl
/-- what reads as a row -/
def Good (l : List Nat) : Prop := 2 ≤ l.length ∧ l.length ≤ 41 ∧ (l[0]? = some 43 ∨ l[0]? = some 45) ∧ ∀ c ∈ l.drop 1, c ∈ [46, 120, 122, 121]
def minus (m : Nat) : Nat := if m = 1 then 45 else 43
theorem at_sg (b d : Bool) : atI [46, 120, 122, 121] (bI b + 2 * bI d) = some (sg b d) := by cases b <;> cases d <;> rfl
end Tw
namespace L2
open PySem PySem.Spec PyProof.Rows
end L2

set_option Elab.async false
set_option linter.all false
set_option maxRecDepth 100000
namespace L2
open PySem PySem.Spec PyProof.Rows
/-! A dict walked by its items: it is frozen while it is walked, and thawed behind the loop. -/
theorem key_rel {P : Program} {w : World} {k : Key} {u : Value} (h : (mixKind P w).is k u = true) : RelV (kV k) u := by
  rcases keyIs_shape (show keyIs k u = true from h) with ⟨i, t, rfl, rfl⟩ | ⟨x, t, rfl, rfl⟩
  · exact ⟨t, rfl⟩
  · exact ⟨t, rfl⟩
section
variable {X : Cx} {pins : List (Addr × Obj)} {σ : St} {H : Hp} {s : Shared} {a : Addr} {kvs : List (Key × V)} {o : Obj}
end
/-- the items of the frozen dict at a -/
def Itd (a : Addr) (o : Obj) (kvs : List (Key × V)) : It :=
  ⟨fun i H => H a = some (.frz o (.dK kvs)) ∧ i < kvs.length, fun i H x H' => ∃ T k v, H T = none ∧ x = .ref T ∧ kvs[i]? = some (k, v) ∧ H' = upd H T (.tup [kV k, v]), fun i H => H a = some (.frz o (.dK kvs)) ∧ kvs.length ≤ i⟩
section
variable {X : Cx}
/-- d.items() as it is walked: d is frozen from here on -/
def iItems (tl : TE) : TI := fun σ H R => tl σ H fun x H1 => ∃ a kvs, x = .ref a ∧ ((H1 a = some (.dK kvs) ∧ ∀ o, R (Itd a o kvs) (upd H1 a (.frz o (.dK kvs)))) ∨ ∃ o, H1 a = some (.frz o (.dK kvs)) ∧ R (Itd a o kvs) H1)
/-- ends behind a thaw of a -/
def Ends.thaw (a : Addr) (kvs : List (Key × V)) (D : Ends) : Ends :=
  ⟨fun σ H => ∃ o, H a = some (.frz o (.dK kvs)) ∧ D.nx σ (upd H a (.dK kvs)), fun v H => ∃ o, H a = some (.frz o (.dK kvs)) ∧ D.rt v (upd H a (.dK kvs)),
   fun σ H => ∃ o, H a = some (.frz o (.dK kvs)) ∧ D.bk σ (upd H a (.dK kvs)), fun σ H => ∃ o, H a = some (.frz o (.dK kvs)) ∧ D.ct σ (upd H a (.dK kvs))⟩
def tThaw (t : TS) : TS := fun D σ H => t D σ H ∨ ∃ a kvs, H a = some (.dK kvs) ∧ t (D.thaw a kvs) σ H
end
/-! steps -/
end L2

set_option Elab.async false
set_option linter.all false
set_option maxRecDepth 100000
set_option maxHeartbeats 1000000
namespace L2
open PySem PySem.Spec PyProof.Rows
open PySem.SeqAt (EqAt)
section
variable {prog : Program} {w : World} {A : Around} {E : Value → Shared → Prop} {s : Shared} {a b : Addr} {kvs kvs2 : List (Key × Value)} {nm : String}
theorem samePairs_ok (hsa : (a == sysModules) = false) (hsb : (b == sysModules) = false) (h1 : s.heap.DictOf (mixKind prog w) a kvs) (h2 : s.heap.DictOf (mixKind prog w) b kvs2) (e : Key → Bool)
    (he : ∀ k v v2, (k, v) ∈ kvs → valueAt kvs2 k = some v2 → EqAt A s v v2 (e k)) {Q : Bool → Shared → Prop} (h : Q (decide (kvs.length = kvs2.length) && kvs.all fun p => (valueAt kvs2 p.1).isSome && e p.1) s) :
    wpAny (model prog w) A (Builtin.Dict.samePairs nm a b) Q E s := by
  obtain ⟨o1, es1, ep1, g1, x1, d1, k1, p1, n1⟩ := id h1
  obtain ⟨o2, es2, ep2, g2, x2, d2, k2, p2, n2⟩ := id h2
  have l1 : es1.size = kvs.length := by rw [← p1.length]; simp
  have l2 : es2.size = kvs2.length := by rw [← p2.length]; simp
  unfold Builtin.Dict.samePairs Builtin.Dict.showsAll
  rw [if_neg (by rw [hsa]; exact Bool.false_ne_true), if_neg (by rw [hsb]; exact Bool.false_ne_true)]
  refine wpAny_bind (wpAny_pure (wpAny_bind (wpAny_pure ?_)))
  refine wpAny_bind (wpAny_dictEntries g1 d1 ?_)
  refine wpAny_bind (wpAny_dictEntries g2 d2 ?_)
  by_cases hsz : es1.size = es2.size
  case neg =>
    rw [if_pos (by simpa using hsz)]
    rw [decide_eq_false (by rw [← l1, ← l2]; exact hsz), Bool.false_and] at h
    exact wpAny_bind (wpAny_rule (wpAny_pure h))
  case pos =>
    rw [if_neg (by simpa using hsz)]
    rw [decide_eq_true (by rw [← l1, ← l2]; exact hsz), Bool.true_and] at h
    refine wpAny_bind (wpAny_dictEpoch g1 d1 ?_)
    refine wpAny_bind ?_
    rw [Std.Legacy.Range.forIn_eq_forIn_range']
    simp only [Std.Legacy.Range.size, Nat.sub_zero, Nat.add_sub_cancel, Nat.div_one]
    refine wpAny_forIn_list _
      (fun rest r s' => ∃ i, s' = s ∧ rest = List.range' i (es1.size - i) ∧ i ≤ es1.size ∧ r = (none, ()) ∧ (kvs.take i).all (fun p => (valueAt kvs2 p.1).isSome && e p.1) = true)
      _ ?_ ?_ _ _ ⟨0, rfl, by simp, Nat.zero_le _, rfl, by simp⟩
    · rintro x rest _ _ ⟨i, rfl, hr, hi, rfl, hall⟩
      have hlt : i < es1.size := by
        rcases Nat.lt_or_ge i es1.size with h | h
        · exact h
        · rw [Nat.sub_eq_zero_of_le h] at hr; simp at hr
      obtain ⟨rfl, hrest⟩ : x = i ∧ rest = List.range' (i + 1) (es1.size - (i + 1)) := by
        have e : es1.size - i = (es1.size - (i + 1)) + 1 := by omega
        rw [e, List.range'_succ] at hr
        injection hr with h1 h2
        exact ⟨h1, h2⟩
      refine wpAny_bind (wpAny_dictEntries g1 d1 ?_)
      rw [Array.getElem?_eq_getElem hlt]
      obtain ⟨⟨k, v⟩, hkv⟩ : ∃ kv, kvs[x]? = some kv := ⟨kvs[x]'(by rw [← l1]; exact hlt), List.getElem?_eq_getElem _⟩
      obtain ⟨hkey, hval⟩ := p1.get? (e := es1[x]) (by simp [hlt]) hkv
      obtain ⟨k', hkey', hhash⟩ := k1 es1[x] (Array.getElem_mem hlt)
      obtain rfl : k' = k := (mixKind prog w).inj _ _ _ hkey' hkey
      have hmem : (k', v) ∈ kvs := List.mem_of_getElem? hkv
      have step : ∀ b : Bool, b = ((valueAt kvs2 k').isSome && e k') → (kvs.take (x + 1)).all (fun p => (valueAt kvs2 p.1).isSome && e p.1) = b := fun b hb => by
        rw [Tw.take_succ_get hkv, List.all_append, hall, Bool.true_and, hb]
        simp
      have whole : (kvs.take (x + 1)).all (fun p => (valueAt kvs2 p.1).isSome && e p.1) = false → kvs.all (fun p => (valueAt kvs2 p.1).isSome && e p.1) = false := fun hf => by
        rw [← List.take_append_drop (x + 1) kvs, List.all_append, hf, Bool.false_and]
      have mf : valueAt kvs2 k' = findBy (mixKind prog w).is es2 k' := by
        obtain ⟨o3, es3, ep3, g3, _, d3, _, f3⟩ := h2.mapOf
        rw [g2] at g3; cases g3
        rw [d2] at d3; cases d3
        exact (f3 k').symm
      refine wpAny_bind (wpAny_holding ?_)
      rw [hhash, hval]
      refine wpAny_bind (wpAny_dictFind_of hkey g2 d2 k2 ?_)
      rw [findBy_of_findIdx?] at mf
      cases hf : es2.findIdx? (fun e => (mixKind prog w).is k' e.key) with
      | none =>
        rw [hf] at mf
        refine wpAny_pure ?_
        rw [if_pos (by rfl)]
        refine wpAny_pure (wpAny_pure ?_)
        rw [whole (step false (by rw [mf]; rfl))] at h
        exact h
      | some j =>
        obtain ⟨hj, _, _⟩ := Array.findIdx?_eq_some_iff_getElem.mp hf
        rw [hf] at mf
        have mf' : valueAt kvs2 k' = some es2[j].val := by rw [mf]; simp [hj]
        refine wpAny_bind (wpAny_dictEntries g2 d2 ?_)
        rw [Array.getElem?_eq_getElem hj]
        refine wpAny_holding (he k' v _ hmem mf' _ _ _ _ ?_)
        cases hek : e k' with
        | false =>
          rw [if_pos (by rfl)]
          refine wpAny_pure (wpAny_pure ?_)
          rw [whole (step false (by rw [hek, Bool.and_false]))] at h
          exact h
        | true =>
          rw [if_neg (by decide)]
          refine wpAny_bind (wpAny_dictEpoch g1 d1 ?_)
          rw [if_neg (by simp)]
          exact wpAny_pure ⟨x + 1, rfl, hrest, hlt, rfl, step true (by rw [hek, mf']; rfl)⟩
    · rintro _ _ ⟨i, rfl, hr, hi, rfl, hall⟩
      have hin : i = es1.size := by
        rcases Nat.lt_or_ge i es1.size with h | h
        · have e : es1.size - i = (es1.size - (i + 1)) + 1 := by omega
          rw [e, List.range'_succ] at hr; exact nomatch hr
        · exact Nat.le_antisymm hi h
      rw [hin, l1, List.take_length] at hall
      rw [hall] at h
      exact wpAny_pure h
end

theorem kv_mem : ∀ {kvs : List (Key × V)} {vs : List (Key × Value)}, KV kvs vs → ∀ {k : Key} {v : Value}, (k, v) ∈ vs → ∃ x, (k, x) ∈ kvs ∧ RelV x v := by
  intro kvs vs r
  induction r with
  | nil => intro k v h; cases h
  | @cons p q ps qs h t ih =>
    intro k v m
    rcases List.mem_cons.mp m with e | m
    · subst e
      obtain ⟨h1, h2⟩ := h
      obtain ⟨pk, px⟩ := p
      cases (show pk = k from h1)
      exact ⟨px, List.mem_cons_self .., h2⟩
    · obtain ⟨x, m', rx⟩ := ih m
      exact ⟨x, List.mem_cons_of_mem _ m', rx⟩
theorem valV_mem {kvs : List (Key × V)} {k : Key} {x : V} (h : valV kvs k = some x) : (k, x) ∈ kvs := by
  unfold valV at h
  obtain ⟨p, hp, e⟩ := Option.map_eq_some_iff.mp h
  have m := List.mem_of_find?_eq_some hp
  have ek : p.1 = k := by
    have z := List.find?_some hp
    exact of_decide_eq_true z
  obtain ⟨pk, px⟩ := p
  cases (show pk = k from ek)
  cases (show px = x from e)
  exact m
def Flat8 (d : PyData) : Prop := d.canLay0 = true ∧ d.depth ≤ 8
/-- whether two dicts are the same, their values told as data by their keys -/
def sameD (kvs kvs2 : List (Key × V)) (f g : Key → PyData) : Bool := decide (kvs.length = kvs2.length) && kvs.all fun p => (valV kvs2 p.1).isSome && PyData.eqv (f p.1) (g p.1)
def rEqM (neg : Bool) (K : PySem.W.Frag) : R2 := fun x y H Q => ∃ a b kvs kvs2 f g, x = .ref a ∧ y = .ref b ∧ Rd H a (.dK kvs) ∧ Rd H b (.dK kvs2) ∧ (∀ k x, (k, x) ∈ kvs → DV K H x (f k) ∧ Flat8 (f k)) ∧ (∀ k x, (k, x) ∈ kvs2 → DV K H x (g k) ∧ Flat8 (g k)) ∧
  Q (.bl (sameD kvs kvs2 f g ^^ neg)) H
section
variable {X : Cx} {pins : List (Addr × Obj)} {σ : St} {H : Hp} {s : Shared} {a b : Addr} {kvs kvs2 : List (Key × V)} {f g : Key → PyData}
theorem same_pairs {A : Around} {E : Value → Shared → Prop} {nm : String} {Q : Bool → Shared → Prop} (hu : A.units + 8 < cLine) (I : Inv X pins σ H s) (ha : Rd H a (.dK kvs)) (hb : Rd H b (.dK kvs2)) (hf : ∀ k x, (k, x) ∈ kvs → DV X.K H x (f k) ∧ Flat8 (f k))
    (hg : ∀ k x, (k, x) ∈ kvs2 → DV X.K H x (g k) ∧ Flat8 (g k)) (h : Q (sameD kvs kvs2 f g) s) : wpAny (model X.prog X.w) A (Builtin.Dict.samePairs nm a b) Q E s := by
  obtain ⟨_, s1, vs, r1, d1⟩ := dk_rd I.hok ha
  obtain ⟨_, s2, vs2, r2, d2⟩ := dk_rd I.hok hb
  refine samePairs_ok s1 s2 d1 d2 (fun k => PyData.eqv (f k) (g k)) (fun k v v2 m e => ?_) ?_
  · obtain ⟨x, mx, rx⟩ := kv_mem r1 m
    have q := r2.val k
    rw [e] at q
    cases ev : valV kvs2 k with
    | none => rw [ev] at q; exact (show False from q).elim
    | some x2 =>
      rw [ev] at q
      have rx2 : RelV x2 v2 := q
      obtain ⟨dx, sx⟩ := hf k x mx
      obtain ⟨dx2, sx2⟩ := hg k x2 (valV_mem ev)
      obtain ⟨as, ra⟩ := dx.reads I rx
      obtain ⟨bs, rb⟩ := dx2.reads I rx2
      exact SeqAt.eqAt_reads _ _ _ _ _ _ _ _ ra rb sx.1 sx2.1 (by have h8 := sx.2; have hm := Nat.min_le_left (f k).depth (g k).depth; omega)
  · have e1 : vs.length = kvs.length := r1.length.symm
    have e2 : vs2.length = kvs2.length := r2.length.symm
    have e3 : (vs.all fun p => (valueAt vs2 p.1).isSome && PyData.eqv (f p.1) (g p.1)) = kvs.all fun p => (valV kvs2 p.1).isSome && PyData.eqv (f p.1) (g p.1) := by
      have hk : ∀ k, (valueAt vs2 k).isSome = (valV kvs2 k).isSome := fun k => ((r2.val k).isSome_eq).symm
      have a1 : (vs.all fun p => (valueAt vs2 p.1).isSome && PyData.eqv (f p.1) (g p.1)) = (vs.map (·.1)).all fun k => (valV kvs2 k).isSome && PyData.eqv (f k) (g k) := by
        rw [List.all_map]
        congr 1
        funext p
        simp only [Function.comp_apply, hk]
      have a2 : (kvs.all fun p => (valV kvs2 p.1).isSome && PyData.eqv (f p.1) (g p.1)) = (kvs.map (·.1)).all fun k => (valV kvs2 k).isSome && PyData.eqv (f k) (g k) := by
        rw [List.all_map]
        rfl
      rw [a1, a2, r1.keys]
    rw [e1, e2, e3]
    exact h
theorem op_eqM (hu : X.A.units + 64 < cLine) : OpR X (compareOp .Eq) (rEqM false X.K) := by
  intro pins s σ H x y v u Q I rx ry h
  obtain ⟨a, b, kvs, kvs2, f, g, rfl, rfl, ha, hb, hf, hg, q⟩ := h
  cases rx
  cases ry
  obtain ⟨_, s1, vs, r1, d1⟩ := dk_rd I.hok ha
  obtain ⟨_, s2, vs2, r2, d2⟩ := dk_rd I.hok hb
  show wpAny _ _ (richCompare .Eq (.ref a) (.ref b)) _ _ s
  refine wpAny_richCompare_same_room d1.typeIs d2.typeIs PySem.F.slot_dict_eq (wpAny_call_entry PySem.F.slot_dict_eq d1.typeIs PySem.F.entry_dict_eq ?_ (PySem.F.args_dict_eq_2 _ _)) (by omega)
  show wpAny _ _ (Builtin.Dict.dictSlotArgs "__eq__" ⟨[.ref a, .ref b], []⟩ >>= _) _ _ s
  refine wpAny_bind ?_
  unfold Builtin.Dict.dictSlotArgs
  refine wpAny_bind (wpAny_notOrdered_dict d1.typeIs ?_)
  show wpAny _ _ (pure ((Value.ref a, Value.ref b) : Value × Value)) _ _ s
  refine wpAny_pure ?_
  refine wpAny_bind (wpAny_isInstance d2.typeIs PySem.F.sub_dict_dict ?_)
  rw [if_neg (by decide)]
  refine wpAny_bind (wpAny_pure (wpAny_bind (wpAny_pure ?_)))
  refine wpAny_bind (same_pairs (by rw [units_in1]; omega) I ha hb hf hg ?_)
  refine wpAny_pure ?_
  refine Exists.intro _ (And.intro rfl (And.intro (fun z => nomatch z) ?_))
  refine ⟨.bl _, H, I, rfl, ?_⟩
  rw [Bool.xor_false] at q
  have e : (sameD kvs kvs2 f g == true) = sameD kvs kvs2 f g := by cases sameD kvs kvs2 f g <;> rfl
  rw [e]
  exact q
theorem op_neM (hu : X.A.units + 64 < cLine) : OpR X (compareOp .NotEq) (rEqM true X.K) := by
  intro pins s σ H x y v u Q I rx ry h
  obtain ⟨a, b, kvs, kvs2, f, g, rfl, rfl, ha, hb, hf, hg, q⟩ := h
  cases rx
  cases ry
  obtain ⟨_, s1, vs, r1, d1⟩ := dk_rd I.hok ha
  obtain ⟨_, s2, vs2, r2, d2⟩ := dk_rd I.hok hb
  show wpAny _ _ (richCompare .NotEq (.ref a) (.ref b)) _ _ s
  refine wpAny_richCompare_same_room d1.typeIs d2.typeIs PySem.F.slot_dict_ne (wpAny_call_entry PySem.F.slot_dict_ne d1.typeIs PySem.F.entry_dict_ne ?_ (PySem.F.args_dict_ne_2 _ _)) (by omega)
  show wpAny _ _ (Builtin.Dict.dictSlotArgs "__ne__" ⟨[.ref a, .ref b], []⟩ >>= _) _ _ s
  refine wpAny_bind ?_
  unfold Builtin.Dict.dictSlotArgs
  refine wpAny_bind (wpAny_notOrdered_dict d1.typeIs ?_)
  show wpAny _ _ (pure ((Value.ref a, Value.ref b) : Value × Value)) _ _ s
  refine wpAny_pure ?_
  refine wpAny_bind (wpAny_isInstance d2.typeIs PySem.F.sub_dict_dict ?_)
  rw [if_neg (by decide)]
  refine wpAny_bind (wpAny_pure (wpAny_bind (wpAny_pure ?_)))
  refine wpAny_bind (same_pairs (by rw [units_in1]; omega) I ha hb hf hg ?_)
  refine wpAny_pure ?_
  refine Exists.intro _ (And.intro rfl (And.intro (fun z => nomatch z) ?_))
  refine ⟨.bl _, H, I, rfl, ?_⟩
  have e : (sameD kvs kvs2 f g == false) = (sameD kvs kvs2 f g ^^ true) := by cases sameD kvs kvs2 f g <;> rfl
  rw [e]
  exact q
end
end L2

set_option Elab.async false
set_option linter.all false
set_option maxRecDepth 100000
namespace L2
open PySem PySem.Spec PyProof.Rows
/-! dict(d), d.clear(); steps over dicts whose keys are ints -/
section
variable {X : Cx}
def rDict : List V → Hp → VK → Prop := fun xs H Q => ∃ a kvs, xs = [.ref a] ∧ Rd H a (.dK kvs) ∧ ∀ p, H p = none → Q (.ref p) (upd H p (.dK kvs))
theorem call_dictQ : CallR X (.type "dict") rDict := by
  intro pins s σ H xs us Q I r h
  obtain ⟨a, kvs, rfl, e, q⟩ := h
  obtain ⟨u, rfl, ru⟩ := Vals.one r
  cases (show u = Value.ref a from ru)
  exact d_copyOf I e fun p s' hp I' => ⟨.ref p, _, I', rfl, q p hp⟩
def rDClear : V → List V → Hp → VK → Prop := fun x vs H Q => ∃ a kvs, x = .ref a ∧ vs = [] ∧ H a = some (.dK kvs) ∧ Q .non (upd H a (.dK []))
end
section
variable {K : PySem.W.Frag} {H : Hp} {Q : VK} {a b : Addr} {kvs kvs2 : List (Key × V)} {σ : St} {td ty tx tv : TE}
theorem st_dict (h : H a = some (.dK kvs)) (q : ∀ p, H p = none → Q (.ref p) (upd H p (.dK kvs))) : rDict [.ref a] H Q := ⟨a, kvs, rfl, .inl h, q⟩
/-- what stands at i -/
abbrev atZ (kvs : List (Key × V)) (i : Int) : Option V := valV kvs (.inl i)
theorem dget_z {i : Int} (h : Rd H a (.dK kvs)) : DGet H a (.int i) (atZ kvs i) := .inl ⟨kvs, .inl i, h, rfl, rfl⟩
theorem dput_z {i : Int} {v : V} (h : H a = some (.dK kvs)) (hl : kvs.length ≤ 1000) : DPut H a (.int i) v (upd H a (.dK (putK kvs (.inl i) v))) := .inl ⟨kvs, .inl i, h, rfl, small1000 hl, rfl⟩
theorem st_dput {D : Ends} (h : tv σ H fun v H1 => td σ H1 fun x H2 => ty σ H2 fun y H3 => ∃ a H4, x = .ref a ∧ DPut H3 a y v H4 ∧ D.nx σ H4) : sDPut td ty tv D σ H := h
theorem st_eqM {f g : Key → PyData} {neg : Bool} (ha : Rd H a (.dK kvs)) (hb : Rd H b (.dK kvs2)) (hf : ∀ k x, (k, x) ∈ kvs → DV K H x (f k) ∧ Flat8 (f k)) (hg : ∀ k x, (k, x) ∈ kvs2 → DV K H x (g k) ∧ Flat8 (g k)) (q : Q (.bl (sameD kvs kvs2 f g ^^ neg)) H) : rEqM neg K (.ref a) (.ref b) H Q :=
  ⟨a, b, kvs, kvs2, f, g, rfl, rfl, ha, hb, hf, hg, q⟩
end
/-- a pair of numbers as data -/
def pairD (p : Int × Int) : PyData := .tuple ([p.1, p.2].map PyData.int)
theorem pair_flat (p : Int × Int) : Flat8 (pairD p) := by
  have h := shaped_ints [p.1, p.2]
  refine ⟨SeqAt.canLay_of_shaped h, ?_⟩
  simp [pairD, PyData.depth, PySem.W.ke_depthAll, PyData.depthAll]
theorem pair_dv {K : PySem.W.Frag} {H : Hp} {a : Addr} {p : Int × Int} (h : SqT K H a [.int p.1, .int p.2]) : DV K H (.ref a) (pairD p) := .tup h (dvs_ints [p.1, p.2])
theorem pair_eqv (p q : Int × Int) : PyData.eqv (pairD p) (pairD q) = decide (p = q) := by
  unfold pairD
  rw [PyData.eqv, eqv_ints]
  obtain ⟨a, b⟩ := p
  obtain ⟨c, d⟩ := q
  simp
end L2

set_option Elab.async false
set_option linter.all false
set_option maxRecDepth 100000
namespace L2
open PySem PySem.Spec PyProof.Rows
/-! Own classes: made by their name, methods by the class of the instance, methods by the class's name, tables of texts, min and max. -/
/-- a class of the text that is made by its name -/
structure KCal (P : Program) (w : World) (K : PySem.W.Frag) (mg : Str → Option Value) (base : Heap) (CX : CXT) (k : Nat) (x : Str) (C : Addr) (ps : List Str) (sp : Sp) : Prop where
  ex : ∃ f fd, Mk K C f ∧ FnOk P w K mg base CX k f fd ps sp ∧ Binds K fd ps [] ∧ mg x = some (.ref C)
/-- a method of the class at C -/
structure MCal (P : Program) (w : World) (K : PySem.W.Frag) (mg : Str → Option Value) (base : Heap) (CX : CXT) (k : Nat) (C : Addr) (m : Str) (ps : List Str) (sp : Sp) : Prop where
  cl : Cls K C
  ex : ∃ f fd, Meth K C m f ∧ FnOk P w K mg base CX k f fd ps sp ∧ Binds K fd ps []
/-- a def of a class, asked for by the class's name -/
structure CMeth (K : PySem.W.Frag) (C : Addr) (m : Str) (f : Addr) : Prop where
  g : PySem.W.specialIn K (.ref C) "__getattribute__" = some (some (.builtin "type.__getattribute__"))
  r : PySem.W.readsIn K C (.type "type") = true
  e : PySem.W.findCls K (.ref C) (.type "type") m = some (.val (.ref f))
  kp : PySem.W.keepIn K (.ref f) = true
structure CCal (P : Program) (w : World) (K : PySem.W.Frag) (mg : Str → Option Value) (base : Heap) (CX : CXT) (k : Nat) (x m : Str) (ps : List Str) (sp : Sp) : Prop where
  ex : ∃ C f fd, mg x = some (.ref C) ∧ CMeth K C m f ∧ FnOk P w K mg base CX k f fd ps sp ∧ Binds K fd ps []
section
variable {X : Cx} {CX : CXT} {j k : Nat} {C : Addr} {ps : List Str} {sp : Sp} {E : XK} {x m : Str} {p pos apos : Pos} {e o : Expr} {es : List Expr} {ta : TE} {t : TA}
/-! ### a table of the module: texts to ints -/
def Tab (K : PySem.W.Frag) (a : Addr) (D : List (Str × Int)) : Prop := KTD.tabLook (KTD.datLooks fun b => K.lookup b) (fun b => K.lookup b) a (D.map fun p => (p.1, KTD.Dat.flat (.int p.2))) = true
def GTab (K : PySem.W.Frag) (mg : Str → Option Value) (x : Str) (a : Addr) (D : List (Str × Int)) : Prop := mg x = some (.ref a) ∧ Tab K a D
def tabAt (k : Str) (D : List (Str × Int)) : Option Int := KTD.datumAt k D
def rInTab (K : PySem.W.Frag) (neg : Bool) : R2 := fun x y H Q => ∃ k a D, x = .str k ∧ y = .ref a ∧ Tab K a D ∧ Q (.bl (neg != (tabAt k D).isSome)) H
def rIxTab (K : PySem.W.Frag) : R2 := fun x y H Q => ∃ k a D i, x = .ref a ∧ y = .str k ∧ Tab K a D ∧ tabAt k D = some i ∧ Q (.int i) H
/-! ### min, max of a tuple or list of ints -/
end
def rBest (K : PySem.W.Frag) (le : Int → Int → Prop) : List V → Hp → VK → Prop := fun xs H Q => ∃ (p : Addr) (ns : List Int), xs = [.ref p] ∧ (SqL K H p (ns.map V.int) ∨ SqT K H p (ns.map V.int)) ∧ 0 < ns.length ∧ ∀ M, M ∈ ns → (∀ a ∈ ns, le a M) → Q (.int M) H
section
variable {X : Cx} {s : Shared} {A : Around} {E : Value → Shared → Prop}
end
/-! ### methods of a family of classes -/
def tMethD {ι : Type} (CD : ι → Addr) (spm : ι → Sp) (m : Str) (E : XK) (ta : TE) (t : TA) : TE := fun σ H Q => ta σ H fun x H1 => ∃ a d dx fs, x = .ref a ∧ H1 a = some (.ins (CD d) dx fs) ∧ fs.lookup m = none ∧ t σ H1 fun vs H2 => spm d (x :: vs) H2 Q E
section
variable {X : Cx} {CX : CXT} {j k : Nat} {ι : Type} {CD : ι → Addr} {spm : ι → Sp} {ps : List Str} {E : XK} {m : Str} {pos apos : Pos} {e o : Expr} {es : List Expr} {ta : TE} {t : TA}
end
/-! ### isinstance of an instance by an own class -/
structure TyC (K : PySem.W.Frag) (C : Addr) : Prop where
  ca : PySem.W.findIn K (.ref C) "__class__" = some (some (.builtin "object.__class__"))
  cg : PySem.W.specialIn K (.builtin "object.__class__") "__get__" = some (some (.builtin "getset_descriptor.__get__"))
  tk : PySem.W.takesIn K (.builtin "object.__class__") = some true
  mo : PySem.W.mroIn K C (.type "object") = some true
section
variable {X : Cx}
end
/-! ### steps -/
section
variable {K : PySem.W.Frag} {H : Hp} {Q : VK} {σ : St} {D : Ends} {te ta tv : TE} {tA : TA} {f m : Str} {a C dx : Addr} {fs : List (Str × V)} {v : V}
def rFld (K : PySem.W.Frag) (f : Str) (x : V) (H1 : Hp) (Q : VK) : Prop := ∃ a C dx fs v, x = .ref a ∧ H1 a = some (.ins C dx fs) ∧ Cls K C ∧ NoAttr K C f ∧ fs.lookup f = some v ∧ Q v H1
def rPut (K : PySem.W.Frag) (f : Str) (D : Ends) (σ : St) (y x : V) (H2 : Hp) : Prop := ∃ a C dx fs, x = .ref a ∧ H2 a = some (.ins C dx fs) ∧ Cls K C ∧ NoAttr K C f ∧ fs.length < 1000 ∧ D.nx σ (upd H2 a (.ins C dx (putF f y fs)))
def rMeth {ι : Type} (CD : ι → Addr) (m : Str) (x : V) (H1 : Hp) (R : ι → Prop) : Prop := ∃ a d dx fs, x = .ref a ∧ H1 a = some (.ins (CD d) dx fs) ∧ fs.lookup m = none ∧ R d
end
end L2

set_option Elab.async false
set_option linter.all false
set_option maxRecDepth 100000
namespace L2
open PySem PySem.Spec PyProof.Rows
/-! A list comprehension of one clause whose target is a pair of names: after TwComp, with two names. -/
/-- what the block's scope must be: its own name x, the rest free (a cell or free where the def stands) or global -/
structure CpScope2 (sc : Scope) (x x2 : Str) (scope : Scope) : Prop where
  kind : scope.kind = .function
  cell : ∀ y ∈ scope.names, y.2 ≠ .cell
  own : scope.names.lookup x = some .local
  own2 : scope.names.lookup x2 = some .local
  loc : ∀ y ∈ scope.names, y.2 = .local → y.1 = x ∨ y.1 = x2 ∨ y.1 = (".0" : Str)
  nam : ∀ y ∈ scope.names, y.2 = .local → scope.names.lookup y.1 = some .local
  free : ∀ y ∈ scope.names, y.2 = .free → sc.names.lookup y.1 = some .cell ∨ sc.names.lookup y.1 = some .free
  two : ∀ y ∈ scope.names, y.2 = .free → y.1 ≠ x ∧ y.1 ≠ x2
/-- the block's context -/
def Cx.comp2 (X : Cx) (M : List Str) (scope : Scope) (x x2 : Str) (C : Addr) (s : Shared) (H : Hp) (ex : List Addr) : Cx :=
  { X with N := x :: x2 :: M, s₀ := s, H₀ := H, env := compEnvC scope (clGo X.env scope.names []) C X.env, outer := X.stack, ex := ex, fn := fun _ => false, pn := [], xe := fun _ _ => False }
section
variable {X : Cx} {M : List Str} {pins : List (Addr × Obj)} {σ : St} {H : Hp} {s : Shared} {scope : Scope} {x x2 : Str}
end
/-- what a comprehension asks: an invariant over the turn, a measure and the list made so far -/
def tComp2 (K : PySem.W.Frag) (wi : TI) (tt : TT) (te : TE) : TE := fun σ H Q => wi σ H fun J H1 => ∃ W : Nat → Nat → List V → Hp → Prop, (∃ m, W 0 m [] H1) ∧ ∀ i m ys H, W i m ys H →
  (J.stop i H ∧ ∀ p, H p = none → Q (.ref p) (upd H p (.lst ys))) ∨
  (J.go i H ∧ ys.length < sizeLine ∧ ∃ N : List V → Hp → Prop, (∀ ys' H', N ys' H' → ∃ m', m' < m ∧ W (i + 1) m' ys' H') ∧
    ∀ x H', J.yld i H x H' → ∃ a v w, x = .ref a ∧ SqT K H' a [v, w] ∧ tt (some v :: some w :: σ) H' fun b H2 => if b = true then te (some v :: some w :: σ) H2 fun y H3 => N (ys ++ [y]) H3 else N ys H2)
section
variable {X : Cx} {M : List Str} {scope : Scope} {x x2 : Str} {px px2 ptg pos : Pos} {tk : Nat} {elt iter : Expr} {ifs : List Expr} {wi : TI} {tt : TT} {te : TE}
end
end L2

set_option Elab.async false
set_option linter.all false
set_option maxRecDepth 100000
namespace L2
open PySem PySem.Spec PyProof.Rows
/-! Steps for own classes, tuples, tables, flat data held against one another. -/
/-- a flat value as data -/
def dV : V → PyData
  | .bl b => .bool b
  | .int i => .int i
  | .str x => .str x
  | _ => .none
/-- flat, and no text with a sign that is none -/
def okV : V → Bool
  | .non => true
  | .bl _ => true
  | .int _ => true
  | .str x => PyData.strOk x
  | _ => false
section
variable {K : PySem.W.Frag} {H : Hp} {Q : VK} {σ : St} {D : Ends} {a b t u : Addr} {xs ys : List V}
theorem st_catT (ha : SqT K H a xs) (hb : SqT K H b ys) (hx : xs ≠ []) (hy : ys ≠ []) (hl : xs.length + ys.length ≤ 1000) (q : ∀ p, H p = none → Q (.ref p) (upd H p (.tup (xs ++ ys)))) : rCatT K (.ref a) (.ref b) H Q :=
  ⟨a, b, xs, ys, rfl, rfl, ha, hb, hx, Nat.le_of_lt (small1000 hl), fun z => (hy z).elim, fun _ => q⟩
def rIntB : List V → Hp → VK → Prop := fun xs H Q => ∃ k, xs = [.bl k] ∧ Q (.int (Tw.bI k)) H
end
section
variable {X : Cx}
end
section
variable {K : PySem.W.Frag} {H : Hp} {Q : VK} {a : Addr} {xs : List V}
end
theorem at0 (x : V) (xs : List V) : atI (x :: xs) 0 = some x := atI_nat (j := 0) rfl
theorem at1 (x y : V) (xs : List V) : atI (x :: y :: xs) 1 = some y := atI_nat (j := 1) rfl
/-- H' is H with another list at l -/
structure App (l : Addr) (H H' : Hp) : Prop where
  ex : ∃ xs ys, H l = some (.lst xs) ∧ H' = upd H l (.lst ys)
/-- a comprehension over a tuple that the clause itself makes -/
def sCompT (K : PySem.W.Frag) (tt : TT) (te : TE) (σ : St) (Q : VK) : V → Hp → Prop := fun x H1 => ∃ a, x = .ref a ∧ (∃ xs, SqT K H1 a xs) ∧ ∃ W : Nat → Nat → List V → Hp → Prop, (∃ m, W 0 m [] H1) ∧ ∀ i m ys H, W i m ys H →
  ((Itt K a).stop i H ∧ ∀ p, H p = none → Q (.ref p) (upd H p (.lst ys))) ∨
  ((Itt K a).go i H ∧ ys.length < sizeLine ∧ ∃ N : List V → Hp → Prop, (∀ ys' H', N ys' H' → ∃ m', m' < m ∧ W (i + 1) m' ys' H') ∧
    ∀ x H', (Itt K a).yld i H x H' → tt (some x :: σ) H' fun b H2 => if b = true then te (some x :: σ) H2 fun y H3 => N (ys ++ [y]) H3 else N ys H2)
section
variable {K : PySem.W.Frag} {a : Addr} {xs : List V} {tl te : TE} {tt : TT} {Q : VK} {σ : St} {H : Hp}
end
end L2

set_option Elab.async false
set_option linter.all false
set_option maxRecDepth 100000
namespace L2
open PySem PySem.Spec PyProof.Rows
/-! Bits against numbers and bits. -/
section
variable {H : Hp} {Q : VK} {n m : Nat} {p q : Bool}
end
end L2

set_option Elab.async false
set_option linter.all false
set_option maxRecDepth 100000
namespace Tw
open PySem L2
/-! Deeds: their words, the objects, the refusals. -/
inductive DK where
  | over | quarter | back | both | wher | swap
  deriving DecidableEq
def DK.word : DK → Str
  | .over => "over" | .quarter => "quarter" | .back => "back" | .both => "both" | .wher => "where" | .swap => "swap"
def DK.undo : DK → Str
  | .over => "over" | .quarter => "back" | .back => "quarter" | .both => "both" | .wher => "where" | .swap => "swap"
def DK.n : DK → Nat
  | .over => 1 | .quarter => 1 | .back => 1 | .both => 1 | .wher => 2 | .swap => 2
def DK.inv : DK → DK
  | .quarter => .back | .back => .quarter | k => k
def tabW : List (Str × Int) := [("over", 1), ("quarter", 1), ("back", 1), ("both", 1), ("where", 2), ("swap", 2)]
def vn (l : List Nat) : List V := l.map fun k => V.int ((k : Nat) : Int)
/-- a deed: its kind, its wires -/
structure Dd where
  k : DK
  w : List Nat
structure Dd.Ok (d : Dd) (n : Nat) : Prop where
  len : d.w.length = d.k.n
  lt : ∀ x ∈ d.w, x < n
  nd : d.w.Nodup
def flds (k : DK) (t : Addr) : List (Str × V) := [("word", .str k.word), ("undoer", .str k.undo), ("at", .ref t)]
/-- the deed d stands at a -/
def DdAt (CD : DK → Addr) (H : Hp) (a : Addr) (d : Dd) : Prop := ∃ dx t, H a = some (.ins (CD d.k) dx (flds d.k t)) ∧ H t = some (.tup (vn d.w)) ∧ d.w.length = d.k.n
/-- the words of the kind k with these numbers stand at a -/
def WdAt (H : Hp) (a : Addr) (k : DK) (is : List Int) : Prop := H a = some (.tup (.str k.word :: is.map V.int)) ∧ is.length = k.n ∧ is.Nodup
/-- whether a thing is told to be a whole number -/
def WN (K : PySem.W.Frag) (H : Hp) (v : V) (b : Bool) : Prop := ∃ t b1 b2, TyOf K H v t ∧ PySem.W.kitOne K t (.type "int") = some b1 ∧ PySem.W.kitOne K t (.type "bool") = some b2 ∧ b = (b1 && !b2)
/-- flat things, told to be whole numbers or not -/
def wnB : V → Bool
  | .int _ => true
  | _ => false
/-- what are no words of a deed -/
inductive NoW (K : PySem.W.Frag) (H : Hp) : V → Prop
  | kind {v t} (h : TyOf K H v t) (k : PySem.W.kitOne K t (.type "tuple") = some false) : NoW K H v
  | empty {a} (h : H a = some (.tup [])) : NoW K H (.ref a)
  | first {a i xs} (h : H a = some (.tup (.int i :: xs))) (f : xs.all okV = true) (m : xs.length ≤ 900) : NoW K H (.ref a)
  | word {a s xs} (h : H a = some (.tup (.str s :: xs))) (e : tabAt s tabW = none) (fs : PyData.strOk s = true) (f : xs.all okV = true) (m : xs.length ≤ 900) : NoW K H (.ref a)
  | len {a k xs} (h : H a = some (.tup (.str (DK.word k) :: xs))) (l : xs.length ≠ k.n) (f : xs.all okV = true) (m : xs.length ≤ 900) : NoW K H (.ref a)
  | part {a k xs} (h : H a = some (.tup (.str (DK.word k) :: xs))) (l : xs.length = k.n) (f : xs.all okV = true) (e : xs.all wnB = false) : NoW K H (.ref a)
  | same {a k i} (h : H a = some (.tup [.str (DK.word k), .int i, .int i])) (e : k.n = 2) : NoW K H (.ref a)
/-- what is handed in as words: none, or a kind's with numbers -/
def Thg (K : PySem.W.Frag) (H : Hp) (v : V) : Prop := NoW K H v ∨ ∃ a k is, v = .ref a ∧ WdAt H a k is
def sp_is_whole_number (K : PySem.W.Frag) : Sp := fun vs H Q _ => ∃ v b, vs = [v] ∧ WN K H v b ∧ Q (.bl b) H
def sp_check_words (K : PySem.W.Frag) (C : Addr) : Sp := fun vs H Q E => ∃ v, vs = [v] ∧ ((NoW K H v ∧ ∀ H', Same H H' → E (.ref C) none H') ∨ (∃ a k is, v = .ref a ∧ WdAt H a k is ∧ ∀ H', Same H H' → Q .non H'))
def sp_Deed___init__ (K : PySem.W.Frag) (CD : DK → Addr) : Sp := fun vs H Q _ => ∃ p w u t, vs = [.ref p, .str w, .str u, .ref t] ∧ ∃ k dx, H p = some (.ins (CD k) dx []) ∧ Q .non (upd H p (.ins (CD k) dx [("word", .str w), ("undoer", .str u), ("at", .ref t)]))
def sp_init1 (K : PySem.W.Frag) (CD : DK → Addr) (k : DK) : Sp := fun vs H Q _ => ∃ (p : Addr) (j : Nat), vs = [.ref p, .int j] ∧ ∃ dx, H p = some (.ins (CD k) dx []) ∧ ∀ t, H t = none → Q .non (upd (upd H t (.tup (vn [j]))) p (.ins (CD k) dx (flds k t)))
def sp_init2 (K : PySem.W.Frag) (CD : DK → Addr) (k : DK) : Sp := fun vs H Q _ => ∃ (p : Addr) (j i : Nat), vs = [.ref p, .int j, .int i] ∧ ∃ dx, H p = some (.ins (CD k) dx []) ∧ ∀ t, H t = none → Q .non (upd (upd H t (.tup (vn [j, i]))) p (.ins (CD k) dx (flds k t)))
abbrev sp_Over___init__ (K : PySem.W.Frag) (CD : DK → Addr) : Sp := sp_init1 K CD .over
abbrev sp_Quarter___init__ (K : PySem.W.Frag) (CD : DK → Addr) : Sp := sp_init1 K CD .quarter
abbrev sp_Back___init__ (K : PySem.W.Frag) (CD : DK → Addr) : Sp := sp_init1 K CD .back
abbrev sp_Both___init__ (K : PySem.W.Frag) (CD : DK → Addr) : Sp := sp_init1 K CD .both
abbrev sp_Where___init__ (K : PySem.W.Frag) (CD : DK → Addr) : Sp := sp_init2 K CD .wher
abbrev sp_Swap___init__ (K : PySem.W.Frag) (CD : DK → Addr) : Sp := sp_init2 K CD .swap
def sp_Deed_wires (K : PySem.W.Frag) (CD : DK → Addr) : Sp := fun vs H Q _ => ∃ a d, vs = [.ref a] ∧ DdAt CD H a d ∧ ∀ p, H p = none → Q (.ref p) (upd H p (.lst (vn d.w)))
abbrev sp_D_wires (K : PySem.W.Frag) (CD : DK → Addr) (_ : DK) : Sp := sp_Deed_wires K CD
def sp_Deed_words (K : PySem.W.Frag) (CD : DK → Addr) : Sp := fun vs H Q _ => ∃ a d, vs = [.ref a] ∧ DdAt CD H a d ∧ ∀ p H', Same H H' → H' p = some (.tup (.str d.k.word :: vn d.w)) → Q (.ref p) H'
abbrev sp_D_words (K : PySem.W.Frag) (CD : DK → Addr) (_ : DK) : Sp := sp_Deed_words K CD
def sp_Deed_undoing (K : PySem.W.Frag) (CD : DK → Addr) : Sp := fun vs H Q _ => ∃ a d, vs = [.ref a] ∧ DdAt CD H a d ∧ ∀ p t H', Same H H' → H p = none → H' p = some (.lst [.ref t]) → H' t = some (.tup (.str d.k.undo :: vn d.w)) → Q (.ref p) H'
abbrev sp_D_undoing (K : PySem.W.Frag) (CD : DK → Addr) (_ : DK) : Sp := sp_Deed_undoing K CD
def sp_deed_of_words (K : PySem.W.Frag) (CD : DK → Addr) (C1 C2 : Addr) : Sp := fun vs H Q E => ∃ v, vs = [v] ∧ ((NoW K H v ∧ ∀ H', Same H H' → E (.ref C1) none H') ∨ (∃ a k is, v = .ref a ∧ WdAt H a k is ∧
  ((∀ i ∈ is, 0 ≤ i) → ∀ p d H', Same H H' → DdAt CD H' p d → d.k = k → d.w.map (fun x : Nat => (x : Int)) = is → Q (.ref p) H') ∧ ((¬ ∀ i ∈ is, 0 ≤ i) → ∀ H', Same H H' → E (.ref C2) none H')))
def sp_deed_of (K : PySem.W.Frag) (CD : DK → Addr) (C1 C2 : Addr) : Sp := fun vs H Q E => ∃ v n, vs = [v, .int ((n : Nat) : Int)] ∧ ((NoW K H v ∧ ∀ H', Same H H' → E (.ref C1) none H') ∨ (∃ a k is, v = .ref a ∧ WdAt H a k is ∧
  ((∀ i ∈ is, 0 ≤ i ∧ i < (n : Int)) → ∀ p d H', Same H H' → DdAt CD H' p d → d.k = k → d.w.map (fun x : Nat => (x : Int)) = is → Q (.ref p) H') ∧ ((¬ ∀ i ∈ is, 0 ≤ i ∧ i < (n : Int)) → ∀ H', Same H H' → E (.ref C2) none H')))
/-- a row of signs -/
structure Row where
  m : Nat
  x : Nat
  z : Nat
def Row.V (r : Row) : List V := [.int (r.m : Nat), .int (r.x : Nat), .int (r.z : Nat)]
structure Row.Ok (r : Row) (n : Nat) : Prop where
  m : r.m ≤ 1
  x : r.x < 2 ^ n
  z : r.z < 2 ^ n
/-- what a row becomes by a deed of the kind k at the wires i, j -/
def ex (n i j : Nat) : Nat := n ^^^ (n.testBit i ^^ n.testBit j).toNat * 2 ^ i ^^^ (n.testBit i ^^ n.testBit j).toNat * 2 ^ j
def actW (k : DK) (i j : Nat) (r : Row) : Row :=
  match k with
  | .over => ⟨r.m ^^^ (r.z.testBit i).toNat, r.x, r.z⟩
  | .quarter => ⟨r.m ^^^ (r.x.testBit i && r.z.testBit i).toNat, r.x, r.z ^^^ (r.x.testBit i).toNat * 2 ^ i⟩
  | .back => ⟨r.m ^^^ (r.x.testBit i && !r.z.testBit i).toNat, r.x, r.z ^^^ (r.x.testBit i).toNat * 2 ^ i⟩
  | .both => ⟨r.m ^^^ (r.x.testBit i && r.z.testBit i).toNat, r.x ^^^ (r.x.testBit i ^^ r.z.testBit i).toNat * 2 ^ i, r.z ^^^ (r.x.testBit i ^^ r.z.testBit i).toNat * 2 ^ i⟩
  | .wher => ⟨r.m ^^^ (r.x.testBit i && r.z.testBit j && !(r.z.testBit i ^^ r.x.testBit j)).toNat, r.x ^^^ (r.x.testBit i).toNat * 2 ^ j, r.z ^^^ (r.z.testBit j).toNat * 2 ^ i⟩
  | .swap => ⟨r.m, ex r.x i j, ex r.z i j⟩
def act (d : Dd) (r : Row) : Row := actW d.k (d.w.getD 0 0) (d.w.getD 1 0) r
def sp_bit_at (K : PySem.W.Frag) : Sp := fun vs H Q _ => ∃ n k : Nat, vs = [.int n, .int k] ∧ Q (.int (bI (n.testBit k))) H
def sp_exchanged (K : PySem.W.Frag) : Sp := fun vs H Q _ => ∃ n i j : Nat, vs = [.int n, .int i, .int j] ∧ i ≤ 1000 ∧ j ≤ 1000 ∧ Q (.int (ex n i j : Nat)) H
def sp_onrow (K : PySem.W.Frag) (CD : DK → Addr) (k : DK) : Sp := fun vs H Q _ => ∃ (a b : Addr) (d : Dd) (r : Row), vs = [.ref a, .ref b] ∧ d.k = k ∧ DdAt CD H a d ∧ (∀ x ∈ d.w, x ≤ 1000) ∧ SqT K H b r.V ∧ ∀ p H', Same H H' → H' p = some (.tup (act d r).V) → Q (.ref p) H'
abbrev sp_D_on_row (K : PySem.W.Frag) (CD : DK → Addr) (k : DK) : Sp := sp_onrow K CD k
abbrev sp_Over_on_row (K : PySem.W.Frag) (CD : DK → Addr) : Sp := sp_onrow K CD .over
abbrev sp_Quarter_on_row (K : PySem.W.Frag) (CD : DK → Addr) : Sp := sp_onrow K CD .quarter
abbrev sp_Back_on_row (K : PySem.W.Frag) (CD : DK → Addr) : Sp := sp_onrow K CD .back
abbrev sp_Both_on_row (K : PySem.W.Frag) (CD : DK → Addr) : Sp := sp_onrow K CD .both
abbrev sp_Where_on_row (K : PySem.W.Frag) (CD : DK → Addr) : Sp := sp_onrow K CD .wher
abbrev sp_Swap_on_row (K : PySem.W.Frag) (CD : DK → Addr) : Sp := sp_onrow K CD .swap
end Tw

set_option Elab.async false
set_option linter.all false
set_option maxRecDepth 100000
namespace Tw
/-! What rows and deeds do to one number of ups and downs: to do the row and then the deed is to do the deed and then what the row becomes. -/
/-- a quarter turn, q times -/
def turn (q : Nat) (p : Int × Int) : Int × Int :=
  if q % 4 = 0 then p else if q % 4 = 1 then (-p.2, p.1) else if q % 4 = 2 then (-p.1, -p.2) else (p.2, -p.1)
/-- the quarter turns of a row at the number b -/
def qq (r : Row) (b n : Nat) : Nat := 2 * r.m + 2 * cnt (fun i => r.z.testBit i && b.testBit i) n + cnt (fun i => r.x.testBit i && r.z.testBit i) n
def rowE (r : Row) (n : Nat) (e : Nat × Int × Int) : Nat × Int × Int := (e.1 ^^^ r.x, turn (qq r e.1 n) e.2)
/-- b with bit i let go -/
def clr (b i : Nat) : Nat := b - (b.testBit i).toNat * 2 ^ i
/-- what a deed makes of one number -/
def deedW (k : DK) (i j : Nat) (e : Nat × Int × Int) : List (Nat × Int × Int) :=
  match k with
  | .over => [(e.1 ^^^ 2 ^ i, e.2)]
  | .quarter => [(e.1, turn (e.1.testBit i).toNat e.2)]
  | .back => [(e.1, turn (3 * (e.1.testBit i).toNat) e.2)]
  | .both => [(clr e.1 i, e.2), (clr e.1 i + 2 ^ i, turn (2 * (e.1.testBit i).toNat) e.2)]
  | .wher => [(e.1 ^^^ (e.1.testBit i).toNat * 2 ^ j, e.2)]
  | .swap => [(clr (clr e.1 i) j + (e.1.testBit j).toNat * 2 ^ i + (e.1.testBit i).toNat * 2 ^ j, e.2)]
end Tw

set_option Elab.async false
set_option linter.all false
set_option maxRecDepth 100000
namespace Tw
section
variable {i j n b : Nat} {r : Row}
end
end Tw

set_option Elab.async false
set_option linter.all false
set_option maxRecDepth 100000
namespace Tw
open PySem L2
/-! Rows behind deeds: they stay rows of these wires; what stays. -/
end Tw

set_option Elab.async false
set_option linter.all false
set_option maxRecDepth 100000
namespace Tw
open PySem L2
/-! Wholes: dicts from numbers of ups and downs to pairs, as lists. -/
abbrev Wh := List (Nat × Int × Int)
inductive WR (K : PySem.W.Frag) (H : Hp) : Wh → List (Key × V) → Prop
  | nil : WR K H [] []
  | cons {b : Nat} {p : Int × Int} {a : Addr} {ws : Wh} {kvs : List (Key × V)} : SqT K H a [.int p.1, .int p.2] → WR K H ws kvs → WR K H ((b, p) :: ws) ((.inl ((b : Nat) : Int), .ref a) :: kvs)
def wat (ws : Wh) (b : Nat) : Option (Int × Int) := (ws.find? fun e => decide (e.1 = b)).map (·.2)
def wput (ws : Wh) (b : Nat) (p : Int × Int) : Wh := if ws.any (fun e => decide (e.1 = b)) then ws.map (fun e => if e.1 = b then (e.1, p) else e) else ws ++ [(b, p)]
section
variable {K : PySem.W.Frag} {H H' : Hp} {ws : Wh} {kvs : List (Key × V)}
theorem WR.stay (h : WR K H ws kvs) (s : ∀ a xs, SqT K H a xs → SqT K H' a xs) : WR K H' ws kvs := by
  induction h with
  | nil => exact .nil
  | cons q _ ih => exact .cons (s _ _ q) ih
theorem WR.len (h : WR K H ws kvs) : kvs.length = ws.length := by
  induction h with
  | nil => rfl
  | cons q _ ih => simp [ih]
theorem key_eq {a b : Nat} : ((Sum.inl ((a : Nat) : Int) : Key) = .inl ((b : Nat) : Int)) ↔ a = b := by
  constructor
  · intro h
    exact Int.ofNat_inj.mp (Sum.inl.inj h)
  · rintro rfl
    rfl
theorem WR.val (h : WR K H ws kvs) (b : Nat) : (valV kvs (.inl ((b : Nat) : Int)) = none ∧ wat ws b = none) ∨ ∃ a p, valV kvs (.inl ((b : Nat) : Int)) = some (.ref a) ∧ SqT K H a [.int p.1, .int p.2] ∧ wat ws b = some p := by
  induction h with
  | nil => exact .inl ⟨rfl, rfl⟩
  | @cons c p a ws kvs q _ ih =>
    by_cases e : c = b
    · subst e
      refine .inr ⟨a, p, valV_pos rfl, q, ?_⟩
      unfold wat
      rw [List.find?_cons, decide_eq_true rfl]
      rfl
    · have e1 : ¬ (Sum.inl ((c : Nat) : Int) : Key) = .inl ((b : Nat) : Int) := fun z => e (key_eq.mp z)
      have e2 : wat ((c, p) :: ws) b = wat ws b := by
        unfold wat
        rw [List.find?_cons, decide_eq_false e]
      rw [e2, valV_neg e1]
      exact ih
theorem WR.any (h : WR K H ws kvs) (b : Nat) : (kvs.any fun kv => decide (kv.1 = .inl ((b : Nat) : Int))) = ws.any fun e => decide (e.1 = b) := by
  induction h with
  | nil => rfl
  | @cons c p a ws kvs q _ ih =>
    rw [List.any_cons, List.any_cons, ih]
    congr 1
    by_cases e : c = b
    · subst e
      rw [decide_eq_true rfl, decide_eq_true rfl]
    · rw [decide_eq_false e, decide_eq_false fun z => e (key_eq.mp z)]
theorem WR.snoc (h : WR K H ws kvs) {b : Nat} {p : Int × Int} {a : Addr} (q : SqT K H a [.int p.1, .int p.2]) : WR K H (ws ++ [(b, p)]) (kvs ++ [(.inl ((b : Nat) : Int), .ref a)]) := by
  induction h with
  | nil => exact .cons q .nil
  | cons q' _ ih => exact .cons q' ih
theorem WR.repl (h : WR K H ws kvs) {b : Nat} {p : Int × Int} {a : Addr} (q : SqT K H a [.int p.1, .int p.2]) : WR K H (ws.map fun e => if e.1 = b then (e.1, p) else e) (kvs.map fun kv => if kv.1 = .inl ((b : Nat) : Int) then (kv.1, .ref a) else kv) := by
  induction h with
  | nil => exact .nil
  | @cons c p' a' ws kvs q' _ ih =>
    rw [List.map_cons, List.map_cons]
    by_cases e : c = b
    · subst e
      rw [if_pos rfl, if_pos rfl]
      exact .cons q ih
    · rw [if_neg e, if_neg fun z => e (key_eq.mp z)]
      exact .cons q' ih
theorem WR.put (h : WR K H ws kvs) {b : Nat} {p : Int × Int} {a : Addr} (q : SqT K H a [.int p.1, .int p.2]) : WR K H (wput ws b p) (putK kvs (.inl ((b : Nat) : Int)) (.ref a)) := by
  unfold wput putK
  rw [h.any b]
  split
  · exact h.repl q
  · exact h.snoc q
theorem WR.get (h : WR K H ws kvs) : ∀ {i : Nat} {k : Key} {v : V}, kvs[i]? = some (k, v) → ∃ b p a, ws[i]? = some (b, p) ∧ k = .inl ((b : Nat) : Int) ∧ v = .ref a ∧ SqT K H a [.int p.1, .int p.2] := by
  induction h with
  | nil => intro i k v e; simp at e
  | @cons c p a ws kvs q _ ih =>
    intro i k v e
    cases i with
    | zero =>
      simp only [List.getElem?_cons_zero, Option.some.injEq, Prod.mk.injEq] at e
      exact ⟨c, p, a, rfl, e.1.symm, e.2.symm, q⟩
    | succ i =>
      rw [List.getElem?_cons_succ] at e ⊢
      exact ih e
/-- the data of what stands at a key -/
def wd (ws : Wh) : Key → PyData
  | .inl i => pairD ((wat ws i.toNat).getD (0, 0))
  | .inr _ => pairD (0, 0)
theorem wat_cons {c b : Nat} {p : Int × Int} (e : c ≠ b) : wat ((c, p) :: ws) b = wat ws b := by
  unfold wat
  rw [List.find?_cons, decide_eq_false e]
theorem wat_hd {c : Nat} {p : Int × Int} : wat ((c, p) :: ws) c = some p := by
  unfold wat
  rw [List.find?_cons, decide_eq_true rfl]
  rfl
theorem wd_flat (ws : Wh) (k : Key) : Flat8 (wd ws k) := by
  cases k with
  | inl i => exact pair_flat _
  | inr x => exact pair_flat _
theorem WR.dv (h : WR K H ws kvs) (nd : (ws.map (·.1)).Nodup) : ∀ k x, (k, x) ∈ kvs → DV K H x (wd ws k) ∧ Flat8 (wd ws k) := by
  suffices s : ∀ k x, (k, x) ∈ kvs → ∃ b a p, k = .inl ((b : Nat) : Int) ∧ x = .ref a ∧ b ∈ ws.map (·.1) ∧ wat ws b = some p ∧ SqT K H a [.int p.1, .int p.2] by
    intro k x hx
    obtain ⟨b, a, p, rfl, rfl, _, e, q⟩ := s k x hx
    refine ⟨?_, wd_flat _ _⟩
    show DV K H (.ref a) (pairD ((wat ws ((b : Nat) : Int).toNat).getD (0, 0)))
    rw [Int.toNat_natCast, e]
    exact pair_dv q
  induction h with
  | nil => intro k x hx; cases hx
  | @cons c p a ws kvs q _ ih =>
    rw [List.map_cons, List.nodup_cons] at nd
    intro k x hx
    rcases List.mem_cons.mp hx with e | hx
    · cases e
      exact ⟨c, a, p, rfl, rfl, by simp, wat_hd, q⟩
    · obtain ⟨b, a', p', rfl, rfl, hb, e, q'⟩ := ih nd.2 k x hx
      refine ⟨b, a', p', rfl, rfl, by simp [hb], ?_, q'⟩
      rw [wat_cons (c := c) (b := b) fun z => nd.1 (by show c ∈ _; rw [z]; exact hb)]
      exact e
theorem WR.same {ws2 : Wh} {kvs2 : List (Key × V)} (h : WR K H ws kvs) (h2 : WR K H ws2 kvs2) (hl : ws.length = ws2.length) (hw : ∀ b, wat ws b = wat ws2 b) (hn : ∀ b ∈ ws.map (·.1), (wat ws b).isSome = true) : sameD kvs kvs2 (wd ws) (wd ws2) = true := by
  unfold sameD
  rw [Bool.and_eq_true]
  refine ⟨decide_eq_true (by rw [h.len, h2.len, hl]), List.all_eq_true.mpr fun kv hkv => ?_⟩
  obtain ⟨i, hi⟩ := List.getElem?_of_mem hkv
  obtain ⟨b, p, a, e1, e2, e3, _⟩ := h.get (k := kv.1) (v := kv.2) hi
  have hb : b ∈ ws.map (·.1) := List.mem_map.mpr ⟨(b, p), List.mem_of_getElem? e1, rfl⟩
  rw [e2, Bool.and_eq_true]
  constructor
  · have hs := hn b hb
    rw [hw b] at hs
    rcases h2.val b with ⟨_, q⟩ | ⟨a2, p2, q, _⟩
    · rw [q] at hs; cases hs
    · rw [q]; rfl
  · have e : wd ws (.inl ((b : Nat) : Int)) = wd ws2 (.inl ((b : Nat) : Int)) := by
      unfold wd
      dsimp only
      rw [Int.toNat_natCast, hw b]
    rw [e]
    unfold wd
    dsimp only
    rw [pair_eqv]
    exact decide_eq_true rfl
end
end Tw

set_option Elab.async false
set_option linter.all false
set_option maxRecDepth 100000
namespace Tw
open PySem L2
/-! The law over deeds on rows: what stays, what wholes come out. -/
def wadd (ws : Wh) (b : Nat) (p : Int × Int) : Wh := wput ws b (((wat ws b).getD (0, 0)).1 + p.1, ((wat ws b).getD (0, 0)).2 + p.2)
def adds (ws es : Wh) : Wh := es.foldl (fun acc e => wadd acc e.1 e.2) ws
def deedF (d : Dd) (ws : Wh) : Wh := ws.foldl (fun acc e => adds acc (deedW d.k (d.w.getD 0 0) (d.w.getD 1 0) e)) []
def rowF (r : Row) (n : Nat) (ws : Wh) : Wh := ws.foldl (fun acc e => wput acc (rowE r n e).1 (rowE r n e).2) []
theorem wat_mem {ws : Wh} {b : Nat} (h : b ∈ ws.map (·.1)) : (wat ws b).isSome = true := by
  obtain ⟨e, he, rfl⟩ := List.mem_map.mp h
  unfold wat
  rw [Option.isSome_map, List.find?_isSome]
  exact ⟨e, he, by simp⟩
end Tw
namespace L2
open PySem
/-- {k: v} -/
def rDisp (p : Addr) (x y : V) (H2 : Hp) (Q : VK) : Prop := H2 p = some (.dK []) ∧ ∃ kvs : List (Key × V), [(x, y)] = kvs.map (fun kv => (kV kv.1, kv.2)) ∧ kvs.length ≤ 15 ∧ Q (.ref p) (upd H2 p (.dK (mergeK [] kvs)))
/-- a loop over a tuple that its head makes -/
def sForT (K : PySem.W.Frag) (g : TG) (tb : TS) (D : Ends) (σ : St) : V → Hp → Prop := fun x H => ∃ a, x = .ref a ∧ (∃ xs, SqT K H a xs) ∧ ∃ W : Nat → Nat → St → Hp → Prop, (∃ m, W 0 m σ H) ∧ ∀ i m σ H, W i m σ H →
  ((Itt K a).stop i H ∧ D.nx σ H) ∨ ((Itt K a).go i H ∧ ∃ N : St → Hp → Prop, (∀ σ' H', N σ' H' → ∃ m', m' < m ∧ W (i + 1) m' σ' H') ∧ ∀ x H', (Itt K a).yld i H x H' → g x σ H' fun σ2 H2 => tb { D with nx := N, ct := N, bk := D.nx } σ2 H2)
section
variable {K : PySem.W.Frag} {H : Hp} {D : Ends} {σ : St} {g : TG} {tb : TS} {a : Addr} {xs : List V}
end
end L2

set_option Elab.async false
set_option linter.all false
set_option maxRecDepth 100000
namespace L2
open PySem PySem.Spec PyProof.Rows
/-! sum of a list of whole numbers; the values of a dict walked -/
section
variable {X : Cx}
def rSum (K : PySem.W.Frag) : List V → Hp → VK → Prop := fun xs H Q => ∃ (p : Addr) (ns : List Int), xs = [.ref p] ∧ SqL K H p (ns.map V.int) ∧ Q (.int ns.sum) H
/-- the values of the frozen dict at a -/
def Itv (a : Addr) (o : Obj) (kvs : List (Key × V)) : It :=
  ⟨fun i H => H a = some (.frz o (.dK kvs)) ∧ i < kvs.length, fun i H x H' => H' = H ∧ ∃ k, kvs[i]? = some (k, x), fun i H => H a = some (.frz o (.dK kvs)) ∧ kvs.length ≤ i⟩
end
section
variable {X : Cx}
/-- d.values() as it is walked: d is frozen from here on -/
def iVals (tl : TE) : TI := fun σ H R => tl σ H fun x H1 => ∃ a kvs, x = .ref a ∧ ((H1 a = some (.dK kvs) ∧ ∀ o, R (Itv a o kvs) (upd H1 a (.frz o (.dK kvs)))) ∨ ∃ o, H1 a = some (.frz o (.dK kvs)) ∧ R (Itv a o kvs) H1)
/-- an expression that freezes a dict and is done with it -/
def tThawE (t : TE) : TE := fun σ H Q => ∃ a kvs, H a = some (.dK kvs) ∧ t σ H fun v H' => ∃ o, H' a = some (.frz o (.dK kvs)) ∧ Q v (upd H' a (.dK kvs))
end
section
variable {K : PySem.W.Frag} {tl : TE} {tt : TT} {te : TE} {Q : VK} {σ : St} {H : Hp} {a : Addr} {kvs : List (Key × V)}
end
end L2

set_option Elab.async false
set_option linter.all false
set_option maxRecDepth 100000
/-! dict(a list of pairs) -/
namespace PySem
open Sem (wp)
namespace F
end F
section
variable {prog : Program} {w : World} {K : Type} [DecidableEq K] {knd : KeyKind prog w K} {A : Around} {R : Result → Shared → Prop}
end
end PySem
namespace L2
open PySem PySem.Spec PyProof.Rows
section
variable {X : Cx}
/-- the pairs in their places -/
def PairsAt (K : PySem.W.Frag) (H : Hp) : List Addr → List (Key × V) → Prop := Paired fun a (kv : Key × V) => SqT K H a [kV kv.1, kv.2]
def rDictP (K : PySem.W.Frag) : List V → Hp → VK → Prop := fun xs H Q => ∃ (p : Addr) (as : List Addr) (kvs : List (Key × V)), xs = [.ref p] ∧ H p = some (.lst (as.map V.ref)) ∧ kvs.length ≤ 1000 ∧ PairsAt K H as kvs ∧ (kvs.map (·.1)).Nodup ∧ ∀ q, H q = none → Q (.ref q) (upd H q (.dK kvs))
end
end L2

set_option Elab.async false
set_option linter.all false
set_option maxRecDepth 100000
namespace L2
open PySem PySem.Spec PyProof.Rows
/-- products up to 2 ** 300 -/
def CMulV (i j : Int) : Prop := i.natAbs < 2 ^ 300 ∧ j.natAbs < 2 ^ 300
theorem bits300V {k : Int} (h : k.natAbs < 2 ^ 300) : Builtin.Int.intBits k ≤ 300 := by
  unfold Builtin.Int.intBits
  split
  · exact Nat.zero_le _
  · rcases Nat.eq_zero_or_pos k.natAbs with z | z
    · rw [z]; decide
    · exact (Nat.log2_lt (Nat.ne_of_gt z)).mpr h
theorem op_mulV {X : Cx} : OpR X (binaryOp .Mult) (rI CMulV fun i j => .int (i * j)) := opI fun _ _ _ _ _ _ _ hc q => mul_int q (IntMulOk.of_bits (Nat.le_trans (bits300V hc.1) (by decide)) (Nat.le_trans (bits300V hc.2) (by decide)))
end L2
namespace Tw
open PySem L2
/-! Rows that act on wholes. -/
def crs (r q : Row) : Nat := (r.x &&& q.z) ^^^ (r.z &&& q.x)

/-- the quarters of two rows done one behind the other, less the product's own letters y -/
def qrt (r q : Row) : Int := 2 * ((r.m : Int) + (q.m : Int) + (pop (r.x &&& q.z) : Nat)) + (pop (r.x &&& r.z) : Nat) + (pop (q.x &&& q.z) : Nat) - (pop ((r.x ^^^ q.x) &&& (r.z ^^^ q.z)) : Nat)
def prod (r q : Row) : Row := ⟨(qrt r q % 4 / 2).toNat, r.x ^^^ q.x, r.z ^^^ q.z⟩
/-- the quarters that a row turns the number b by -/
def trn (r : Row) (b : Nat) : Nat := 2 * r.m + 2 * pop (r.z &&& b) + pop (r.x &&& r.z)
/-- what a row makes of one number -/
def tE (r : Row) (e : Nat × Int × Int) : Nat × Int × Int := (e.1 ^^^ r.x, turn (trn r e.1) e.2)
def negE (e : Nat × Int × Int) : Nat × Int × Int := (e.1, (0 - e.2.1, 0 - e.2.2))
def wgt (ws : Wh) : Int := (ws.map fun e => e.2.1 * e.2.1 + e.2.2 * e.2.2).sum
/-- a whole: keys unlike, numbers not too great -/
structure Wok (ws : Wh) : Prop where
  nd : (ws.map (·.1)).Nodup
  sm : ∀ e ∈ ws, e.2.1.natAbs < 2 ^ 100 ∧ e.2.2.natAbs < 2 ^ 100
theorem wput_keys (ws : Wh) (b : Nat) (p : Int × Int) : (wput ws b p).map (·.1) = if ws.any (fun e => decide (e.1 = b)) then ws.map (·.1) else ws.map (·.1) ++ [b] := by
  unfold wput
  split
  · rw [List.map_map]
    apply List.map_congr_left
    intro e _
    show (if e.1 = b then (e.1, p) else e).1 = e.1
    split <;> rfl
  · rw [List.map_append]; rfl
theorem wput_le (ws : Wh) (b : Nat) (p : Int × Int) : (wput ws b p).length ≤ ws.length + 1 := by
  unfold wput
  split <;> simp
def But (f : Addr) (H H' : Hp) : Prop := ∀ c o, c ≠ f → H c = some o → H' c = some o
theorem But.tup {K : PySem.W.Frag} {f : Addr} {H H' : Hp} (h : But f H H') {kvs : List (Key × V)} (hf : H f = some (.dK kvs)) : ∀ a xs, SqT K H a xs → SqT K H' a xs := fun a xs s => by
  rcases s with (s | ⟨o, s⟩) | s
  · exact .inl (.inl (h _ _ (ne_of s hf (by intro z; cases z)) s))
  · exact .inl (.inr ⟨o, h _ _ (ne_of s hf (by intro z; cases z)) s⟩)
  · exact .inr s
theorem But.upd {f : Addr} {H : Hp} {o : HO} : But f H (L2.upd H f o) := fun c u hc e => by rw [upd_ne hc]; exact e
section
variable {K : PySem.W.Frag} {H : Hp} {Q : VK} {a b : Addr} {kvs kvs2 : List (Key × V)} {ws : Wh}
end
theorem cut_intsG (ns : List Int) (lo hi : Nat) : ∃ ms : List Int, cutV (ns.map V.int) (some (lo : Int)) (some (hi : Int)) = ms.map V.int ∧ ms.length ≤ hi - lo := by
  refine ⟨(ns.drop (min lo ns.length)).take (min hi ns.length - min lo ns.length), ?_, by rw [List.length_take, List.length_drop]; omega⟩
  unfold cutV
  rw [HT.sIx_nat, HT.sIx_nat, List.length_map, List.map_take, List.map_drop]
theorem take_succV {α : Type} {l : List α} {i : Nat} {x : α} (h : l[i]? = some x) : l.take (i + 1) = l.take i ++ [x] := by rw [List.take_add_one, h]; rfl
theorem int_at {ns : List Int} {i : Nat} {x : V} (h : (ns.map V.int)[i]? = some x) : ∃ c : Int, x = .int c := by
  rw [List.getElem?_map] at h
  cases e : ns[i]? with
  | none => rw [e] at h; cases h
  | some k => rw [e] at h; exact ⟨k, (Option.some.inj h).symm⟩
theorem WR.keys {K : PySem.W.Frag} {H : Hp} {ws : Wh} {kvs : List (Key × V)} (h : WR K H ws kvs) : kvs.map (·.1) = (ws.map (·.1)).map fun b => (Sum.inl ((b : Nat) : Int) : Key) := by
  induction h with
  | nil => rfl
  | cons q _ ih => rw [List.map_cons, List.map_cons, List.map_cons, ih]
end Tw
namespace L2
open PySem PySem.Spec PyProof.Rows
theorem pr_snoc {α β : Type} {F : α → β → Prop} {a : α} {b : β} (x : F a b) : ∀ {as : List α} {bs : List β}, Paired F as bs → Paired F (as ++ [a]) (bs ++ [b])
  | _, _, .nil => .cons x .nil
  | _, _, .cons h t => .cons h (pr_snoc x t)
theorem pr_map {α β : Type} {F G : α → β → Prop} (k : ∀ a b, F a b → G a b) : ∀ {as : List α} {bs : List β}, Paired F as bs → Paired G as bs
  | _, _, .nil => .nil
  | _, _, .cons h t => .cons (k _ _ h) (pr_map k t)
end L2
namespace Tw
open PySem L2
/-- the whole ws stands at a -/
def WhAt (K : PySem.W.Frag) (H : Hp) (a : Addr) (ws : Wh) : Prop := ∃ kvs, H a = some (.dK kvs) ∧ WR K H ws kvs
theorem WhAt.stay {K : PySem.W.Frag} {H H' : Hp} {a : Addr} {ws : Wh} (h : WhAt K H a ws) (s : Same H H') : WhAt K H' a ws := by
  obtain ⟨kvs, h1, h2⟩ := h
  exact ⟨kvs, s _ _ h1, h2.stay fun a xs q => s.tup q⟩
theorem at4n {a b c d : V} {m : Nat} (h : m < 4) (ha : ∃ k : Nat, a = .int k) (hb : ∃ k : Nat, b = .int k) (hc : ∃ k : Nat, c = .int k) (hd : ∃ k : Nat, d = .int k) : ∃ k : Nat, atI [a, b, c, d] (m : Int) = some (.int k) := by
  obtain ⟨a, rfl⟩ := ha
  obtain ⟨b, rfl⟩ := hb
  obtain ⟨c, rfl⟩ := hc
  obtain ⟨d, rfl⟩ := hd
  have e : m = 0 ∨ m = 1 ∨ m = 2 ∨ m = 3 := by omega
  rcases e with rfl | rfl | rfl | rfl
  · exact ⟨a, atI_nat (j := 0) rfl⟩
  · exact ⟨b, atI_nat (j := 1) rfl⟩
  · exact ⟨c, atI_nat (j := 2) rfl⟩
  · exact ⟨d, atI_nat (j := 3) rfl⟩
theorem at4m {a b c d : V} (m : Nat) (ha : ∃ k : Nat, a = .int k) (hb : ∃ k : Nat, b = .int k) (hc : ∃ k : Nat, c = .int k) (hd : ∃ k : Nat, d = .int k) : ∃ k : Nat, atI [a, b, c, d] ((m : Int) % 4) = some (.int k) := by
  have e : ((m : Nat) : Int) % 4 = ((m % 4 : Nat) : Int) := by omega
  rw [e]
  exact at4n (by omega) ha hb hc hd
end Tw

set_option Elab.async false
set_option linter.all false
set_option maxRecDepth 100000
namespace L2
open PySem PySem.Spec PyProof.Rows
/-! the keys of a dict: as a list, and walked -/
/-- the keys, as they come -/
def ksV (kvs : List (Key × V)) : List V := kvs.map fun kv => kV kv.1
section
variable {X : Cx}
def rLstD : List V → Hp → VK → Prop := fun xs H Q => ∃ a kvs, xs = [V.ref a] ∧ Rd H a (.dK kvs) ∧ ∀ p, H p = none → Q (.ref p) (upd H p (.lst (ksV kvs)))
/-- the keys of the frozen dict at a -/
def Itk (a : Addr) (o : Obj) (kvs : List (Key × V)) : It :=
  ⟨fun i H => H a = some (.frz o (.dK kvs)) ∧ i < kvs.length, fun i H x H' => H' = H ∧ ∃ k v, x = kV k ∧ kvs[i]? = some (k, v), fun i H => H a = some (.frz o (.dK kvs)) ∧ kvs.length ≤ i⟩
end
section
variable {X : Cx}
/-- d as it is walked: d is frozen from here on -/
def iKeys (tl : TE) : TI := fun σ H R => tl σ H fun x H1 => ∃ a kvs, x = .ref a ∧ ((H1 a = some (.dK kvs) ∧ ∀ o, R (Itk a o kvs) (upd H1 a (.frz o (.dK kvs)))) ∨ ∃ o, H1 a = some (.frz o (.dK kvs)) ∧ R (Itk a o kvs) H1)
end
section
variable {K : PySem.W.Frag} {tl : TE} {tt : TT} {te : TE} {Q : VK} {σ : St} {H : Hp} {a b : Addr} {kvs : List (Key × V)} {g : TG} {tb : TS} {D : Ends}
theorem st_dget {td ty : TE} (h : td σ H fun x H1 => ty σ H1 fun y H2 => ∃ a v, x = .ref a ∧ DGet H2 a y (some v) ∧ Q v H2) : tDGet td ty σ H Q := h
end
end L2

set_option Elab.async false
set_option linter.all false
set_option maxRecDepth 100000
namespace L2
open PySem PySem.Spec PyProof.Rows
/-! for x in reversed(xs): the list stays as it is. -/
/-- the list at a, n long, from its end -/
def ItB (K : PySem.W.Frag) (a : Addr) (n : Nat) : It :=
  ⟨fun i H => ∃ xs x, SqL K H a xs ∧ xs.length = n ∧ i < n ∧ xs[n - 1 - i]? = some x, fun i H x H' => H' = H ∧ ∀ xs, SqL K H a xs → xs[n - 1 - i]? = some x, fun i _ => n ≤ i⟩
def iRev (K : PySem.W.Frag) (ta : TA) : TI := fun σ H R => ta σ H fun vs H1 => ∃ a xs, vs = [.ref a] ∧ SqL K H1 a xs ∧ R (ItB K a xs.length) H1
section
variable {X : Cx} {tg : Expr}
end
section
variable {K : PySem.W.Frag} {a : Addr} {xs : List V} {g : TG} {tb : TS} {D : Ends} {σ : St} {H : Hp}
end
/-- a comprehension over a list that the block leaves as it is -/
theorem comp_lst {K : PySem.W.Frag} {a : Addr} {xs : List V} {tt : TT} {te : TE} {Q : VK} {σ : St} {H : Hp} (Pv : Nat → List V → Hp → Prop) (hn : xs.length ≤ 1000) (h0 : Pv 0 [] H) (hl : ∀ i ys H, Pv i ys H → ys.length ≤ i) (hk : ∀ i ys H, Pv i ys H → SqL K H a xs)
    (hs : ∀ i x ys H, xs[i]? = some x → Pv i ys H → tt (some x :: σ) H fun b H2 => if b = true then te (some x :: σ) H2 fun y H3 => Pv (i + 1) (ys ++ [y]) H3 else Pv (i + 1) ys H2)
    (hd : ∀ ys H, Pv xs.length ys H → ∀ p, H p = none → Q (.ref p) (upd H p (.lst ys))) :
    ∃ W : Nat → Nat → List V → Hp → Prop, (∃ m, W 0 m [] H) ∧ ∀ i m ys H, W i m ys H → ((Itl K a).stop i H ∧ ∀ p, H p = none → Q (.ref p) (upd H p (.lst ys))) ∨
      ((Itl K a).go i H ∧ ys.length < sizeLine ∧ ∃ N : List V → Hp → Prop, (∀ ys' H', N ys' H' → ∃ m', m' < m ∧ W (i + 1) m' ys' H') ∧
        ∀ x H', (Itl K a).yld i H x H' → tt (some x :: σ) H' fun b H2 => if b = true then te (some x :: σ) H2 fun y H3 => N (ys ++ [y]) H3 else N ys H2) := by
  refine ⟨fun i m ys H => m = xs.length - i ∧ i ≤ xs.length ∧ Pv i ys H, ⟨xs.length, by simp, Nat.zero_le _, h0⟩, ?_⟩
  rintro i m ys H ⟨rfl, hi, p⟩
  by_cases hlt : i < xs.length
  · refine .inr ⟨⟨xs, xs[i], hk i ys H p, by simp [hlt]⟩, small1000 (by have := hl i ys H p; omega), Pv (i + 1), fun ys' H' p' => ⟨xs.length - (i + 1), by omega, rfl, hlt, p'⟩, fun x H' y => ?_⟩
    obtain ⟨e, y⟩ := y
    subst e
    exact hs i x ys _ (y xs (hk i ys _ p)) p
  · have e : i = xs.length := by omega
    subst e
    exact .inl ⟨⟨xs, hk _ ys H p, Nat.le_refl _⟩, hd ys H p⟩
theorem st_comp_lst {K : PySem.W.Frag} {a : Addr} {xs : List V} {tl : TE} {tt : TT} {te : TE} {Q : VK} {σ : St} {H : Hp} (e : ∀ P : V → Hp → Prop, P (.ref a) H → tl σ H P) (s : SqL K H a xs) (Pv : Nat → List V → Hp → Prop) (hn : xs.length ≤ 1000) (h0 : Pv 0 [] H) (hl : ∀ i ys H, Pv i ys H → ys.length ≤ i) (hk : ∀ i ys H, Pv i ys H → SqL K H a xs)
    (hs : ∀ i x ys H, xs[i]? = some x → Pv i ys H → tt (some x :: σ) H fun b H2 => if b = true then te (some x :: σ) H2 fun y H3 => Pv (i + 1) (ys ++ [y]) H3 else Pv (i + 1) ys H2)
    (hd : ∀ ys H, Pv xs.length ys H → ∀ p, H p = none → Q (.ref p) (upd H p (.lst ys))) : tComp (iList K tl) tt te σ H Q :=
  e _ ⟨a, rfl, ⟨xs, s⟩, comp_lst Pv hn h0 hl hk hs hd⟩
end L2

set_option Elab.async false
set_option linter.all false
set_option maxRecDepth 100000
namespace Tw
open PySem L2
/-! Numbers of two parts, multiplied; wholes that are the same but for a factor. -/
def gm (p q : Int × Int) : Int × Int := (p.1 * q.1 - p.2 * q.2, p.1 * q.2 + p.2 * q.1)
/-- the number at b -/
def wv (ws : Wh) (b : Nat) : Int × Int := (wat ws b).getD (0, 0)
def Due (ws us : Wh) : Prop := (∀ b, b ∈ ws.map (·.1) ↔ b ∈ us.map (·.1)) ∧ ∀ h ∈ ws.map (·.1), ∀ t ∈ ws.map (·.1), gm (wv ws h) (wv us t) = gm (wv us h) (wv ws t)
/-- a whole times a number -/
def wtm (c : Int × Int) (ws : Wh) : Wh := ws.map fun e => (e.1, gm e.2 c)
end Tw

set_option Elab.async false
set_option linter.all false
set_option maxRecDepth 100000
namespace L2
open PySem PySem.Spec PyProof.Rows
/-! sorted and min of a dict whose keys are whole numbers -/
section
variable {prog : Program} {w : World} {A : Around} {E : Value → Shared → Prop} {s : Shared} {K : Type} [DecidableEq K] {knd : KeyKind prog w K} {d : Addr} {kvs : List (K × Value)} {ep : Nat}
theorem tw_collect_dict {Q : List Value → Shared → Prop} (hh : A.handled = none) (lo : (d == sysModules) = false) (hm : s.heap.DictAt knd d kvs ep) (hn : kvs.length ≤ sizeLine)
    (h : ∀ (h' : Heap) (tk : Nat) (vs : List Value), (∀ b o, s.heap.get? b = some o → h'.get? b = some o) → s.heap.objs.size ≤ h'.objs.size → vs.length = kvs.length → (∀ (j : Nat) (v : Value), vs[j]? = some v → ∃ k x, kvs[j]? = some (k, x) ∧ knd.is k v = true) → Q vs { s with heap := h', toks := tk }) :
    wpAny (model prog w) A (collect (.ref d)) Q E s := by
  unfold collect
  refine wpAny_bind (wpAny_runValue (codeAny_builtin entry_proto_collect' ?_))
  show wpAny _ _ (do again (.builtin "list.__iadd__" ⟨[← newList [], .ref d], []⟩)) _ _ s
  refine wpAny_bind (wpAny_newList (wpAny_pure ⟨Code.quiet_builtin _ (by decide +kernel), codeAny_builtin entry_list_iadd' ?_⟩))
  show wpAny _ _ (Builtin.List.listExtendWith (.ref s.heap.objs.size) (.ref d) (.ref s.heap.objs.size)) _ _ { s with heap := s.heap.push (seqObj "list" #[] 0) }
  have hlt := hm.lt_size
  rw [Around.under_plainId (show plainId "list.__iadd__" = true by decide +kernel)]
  refine PySem.W.kdl_extend (R := fun r s' => match r with
      | .ok (.ret v) => wpAny (model prog w) A (match v with
        | .ref a => do
          let o ← load a
          match o.data with
          | .seq xs _ => pure xs.toList
          | _ => unsupported "internal:collect"
        | _ => unsupported "internal:collect") Q E s'
      | .ok _ => False
      | .error e => E e s') (s := { s with heap := s.heap.push (seqObj "list" #[] 0) }) (PySem.W.kdl_dict (knd := knd) (kvs := kvs) (ep := ep) lo) hh (hm.push _) _ (Nat.ne_of_gt hlt) (Nat.ne_of_gt hlt) _ 0 (Heap.get?_push_size _ rfl) (fun h' tk acc' c' hk hS' hacc => ?_) hn
  show wpAny (model prog w) A (do
      let o ← load s.heap.objs.size
      match o.data with
      | .seq xs _ => pure xs.toList
      | _ => unsupported "internal:collect") Q E { s with heap := h', toks := tk }
  refine wpAny_bind (wpAny_load hS' ?_)
  show wpAny _ _ (pure acc'.toList) Q E _
  refine wpAny_pure (h h' tk acc'.toList (fun b o e => hk b o (Nat.ne_of_lt (Heap.lt_size e)) (Heap.get?_push_of_some _ e)) (Nat.le_of_lt (Heap.lt_size hS')) (by rw [Array.length_toList]; exact hacc.1) fun j v e => hacc.2 j v (by rw [← Array.getElem?_toList]; exact e))
end
theorem ints_vals : ∀ {vs : List Value} {ns : List Int}, IntsAre vs ns → Vals (ns.map V.int) vs
  | _, _, .nil => .nil
  | _, _, .cons n t r => .cons ⟨t, rfl⟩ (ints_vals r)
theorem ints_by : ∀ {vs : List Value} {ns : List Int}, vs.length = ns.length → (∀ (j : Nat) (v : Value) (n : Int), vs[j]? = some v → ns[j]? = some n → ∃ t, v = .int n t) → IntsAre vs ns
  | [], [], _, _ => .nil
  | v :: vs, n :: ns, hl, h => by
    obtain ⟨t, rfl⟩ := h 0 v n rfl rfl
    exact .cons n t (ints_by (Nat.succ.inj hl) fun j v n e1 e2 => h (j + 1) v n e1 e2)
  | [], _ :: _, hl, _ => by cases hl
  | _ :: _, [], hl, _ => by cases hl
/-- the keys are these whole numbers -/
def KInts (kvs : List (Key × V)) (ns : List Int) : Prop := kvs.map (·.1) = ns.map Sum.inl
theorem kints_at {kvs : List (Key × V)} {ns : List Int} {vs : List (Key × Value)} (h : KInts kvs ns) (rel : KV kvs vs) {P : Program} {w : World} {j : Nat} {k : Key} {x v : Value} {n : Int} (e1 : vs[j]? = some (k, x)) (e2 : (mixKind P w).is k v = true) (e3 : ns[j]? = some n) : ∃ t, v = .int n t := by
  have hv : vs.map (·.1) = ns.map Sum.inl := (rel.keys).symm.trans h
  have e4 : (vs.map (·.1))[j]? = some k := by rw [List.getElem?_map, e1]; rfl
  rw [hv, List.getElem?_map, e3] at e4
  have e5 : k = .inl n := (Option.some.inj e4).symm
  subst e5
  exact key_rel e2
theorem kints_len {kvs : List (Key × V)} {ns : List Int} (h : KInts kvs ns) : kvs.length = ns.length := by
  have := congrArg List.length h
  rw [List.length_map, List.length_map] at this
  exact this
section
variable {X : Cx}
def rBestD (le : Int → Int → Prop) : List V → Hp → VK → Prop := fun xs H Q => ∃ a kvs ns, xs = [V.ref a] ∧ Rd H a (.dK kvs) ∧ KInts kvs ns ∧ 0 < ns.length ∧ ∀ M, M ∈ ns → (∀ a ∈ ns, le a M) → Q (.int M) H
def rSortD : List V → Hp → VK → Prop := fun xs H Q => ∃ a kvs ns, xs = [V.ref a] ∧ Rd H a (.dK kvs) ∧ KInts kvs ns ∧ ns.length < 64 ∧ ∀ p (ms : List Int), H p = none → ms.Perm ns → ms.Pairwise (· ≤ ·) → Q (.ref p) (upd H p (.lst (ms.map V.int)))
theorem sort_fin {pins : List (Addr × Obj)} {σ : St} {H : Hp} {s : Shared} {h1 : Heap} {tk : Nat} {us : List Value} {ns ms : List Int} {out : Array Value} (I : Inv X pins σ H s) (hk : ∀ b o, s.heap.get? b = some o → h1.get? b = some o) (hle : s.heap.objs.size ≤ h1.objs.size) (hl : ns.length < 64)
    (a1 : IntsAre out.toList ms) (a2 : ms.Perm ns) : Inv X pins σ (upd H h1.objs.size (.lst (ms.map V.int))) { s with heap := sortedHeap (h1.push (seqObj "list" us.toArray 0)) h1.objs.size us out, toks := tk } := by
  have hoL : (h1.push (seqObj "list" us.toArray 0)).get? h1.objs.size = some (seqObj "list" us.toArray 0) := Heap.get?_push_size _ rfl
  obtain ⟨e, he⟩ := sortedHeap_at (out := out) hoL
  have hml : ms.length = ns.length := a2.length_eq
  refine I.laid (t' := tk) (fun b o eb => ?_) hle ⟨by rw [List.length_map]; exact Nat.le_of_lt (small1000 (by omega)), out.toList, e, ints_vals a1, by simpa [seqObj] using he⟩
  have hb := Heap.lt_size (hk _ _ eb)
  rw [sortedHeap_old (Nat.ne_of_lt hb) (by rw [Heap.size_push]; exact Nat.lt_succ_of_lt hb)]
  exact Heap.get?_push_of_some _ (hk _ _ eb)
theorem call_sortedD (hc : X.calm = true) : CallR X (.builtin "sorted") rSortD := by
  intro pins s σ H xs us Q I r h
  obtain ⟨a, kvs, ns, rfl, ha, hk, h64, q⟩ := h
  obtain ⟨u, rfl, ru⟩ := vals1 r
  cases ru
  obtain ⟨z, lo, vs, rel, dd⟩ := dk_rd I.hok ha
  obtain ⟨ep, hm⟩ := dd.dictAt
  have hl1 := kints_len hk
  have hl2 : vs.length = kvs.length := rel.length.symm
  refine Calls.call_function_entry kind_sorted plain_sorted entry_sorted (args_sorted1 _) ?_
  unfold Builtin.«sorted»
  refine wpAny_bind (m := checkCount "sorted" 1 1 _) (wpAny_pure ?_)
  refine wpAny_bind (tw_collect_dict (knd := mixKind X.prog X.w) (I.ok.hd hc) lo hm (by rw [hl2]; exact z) fun h1 tk us hk1 hle1 hlen hus => ?_)
  have hI : IntsAre us ns := ints_by (by omega) fun j v n e1 e2 => by
    obtain ⟨k, x, e3, e4⟩ := hus j v e1
    exact kints_at hk rel e3 e4 e2
  refine wpAny_bind (wpAny_newList ?_)
  have hoL : (h1.push (seqObj "list" us.toArray 0)).get? h1.objs.size = some (seqObj "list" us.toArray 0) := Heap.get?_push_size _ rfl
  show wpAny _ _ _ _ _ { s with heap := h1.push (seqObj "list" us.toArray 0), toks := tk }
  refine wpAny_bind (wpAny_holding (wpAny_call_entry slot_list_sort ⟨_, hoL, rfl⟩ entry_list_sort (list_sort_tree hoL hI (by omega) fun out ns' a1 a2 a3 => ⟨_, rfl, ?_⟩) (args_list_sort _)))
  have J := sort_fin (tk := tk) (us := us) I hk1 hle1 h64 a1 a2
  exact wpAny_pure ⟨_, rfl, .ref h1.objs.size, _, J, rfl, q _ _ (I.hok.fresh hle1) a2 a3⟩
def rSortR : List V → Hp → VK → Prop := fun xs H Q => ∃ a kvs ns, xs = [V.ref a] ∧ Rd H a (.dK kvs) ∧ KInts kvs ns ∧ ns.length < 64 ∧ ∀ p (ms : List Int), H p = none → ms.Perm ns → Q (.ref p) (upd H p (.lst (ms.map V.int)))
def tSortR (t : TA) (tk : TE) : TE := fun σ H Q => t σ H fun xs H1 => tk σ H1 fun b H2 => b = .bl true ∧ rSortR xs H2 Q
end
end L2

set_option Elab.async false
set_option linter.all false
set_option maxRecDepth 100000
namespace L2
open PySem PySem.Spec PyProof.Rows
/-! a pair of dicts told to be the same as another -/
section
variable {X : Cx} {pins : List (Addr × Obj)} {σ : St} {H : Hp} {s : Shared} {a b : Addr} {kvs kvs2 : List (Key × V)} {f g : Key → PyData}
/-- the dicts at a and b are the same -/
def SameAt (K : PySem.W.Frag) (H : Hp) (a b : Addr) : Prop := ∃ kvs kvs2 f g, Rd H a (.dK kvs) ∧ Rd H b (.dK kvs2) ∧ (∀ k x, (k, x) ∈ kvs → DV K H x (f k) ∧ Flat8 (f k)) ∧ (∀ k x, (k, x) ∈ kvs2 → DV K H x (g k) ∧ Flat8 (g k)) ∧ sameD kvs kvs2 f g = true ∧ (∀ kv ∈ kvs, ∃ i, kv.1 = .inl i) ∧ ∀ kv ∈ kvs2, ∃ i, kv.1 = .inl i
def rEqTT (K : PySem.W.Frag) : R2 := fun x y H Q => ∃ t u a1 a2 b1 b2, x = .ref t ∧ y = .ref u ∧ SqT K H t [.ref a1, .ref a2] ∧ SqT K H u [.ref b1, .ref b2] ∧ a1 ≠ b1 ∧ a2 ≠ b2 ∧ SameAt K H a1 b1 ∧ SameAt K H a2 b2 ∧ Q (.bl true) H
end
end L2

set_option Elab.async false
set_option linter.all false
set_option maxRecDepth 100000
namespace Tw
open PySem L2
/-! Wholes without noughts, their keys as lists. -/
/-- keys unlike, numbers below N -/
structure Wb (N : Nat) (ws : Wh) : Prop where
  nd : (ws.map (·.1)).Nodup
  sm : ∀ e ∈ ws, e.2.1.natAbs < N ∧ e.2.2.natAbs < N
structure Wz (N : Nat) (ws : Wh) : Prop extends Wb N ws where
  nz : ∀ e ∈ ws, e.2 ≠ (0, 0)
theorem wv_mem : ∀ {ws : Wh} {b : Nat}, b ∈ ws.map (·.1) → (b, wv ws b) ∈ ws
  | [], b, h => by cases h
  | (k, p) :: ws, b, h => by
    by_cases e : k = b
    · subst e
      unfold wv
      rw [wat_hd]
      exact List.mem_cons_self
    · have h' : b ∈ ws.map (·.1) := by
        rcases List.mem_cons.mp h with z | z
        · exact (e z.symm).elim
        · exact z
      have ih := wv_mem h'
      unfold wv at ih ⊢
      rw [wat_cons e]
      exact List.mem_cons_of_mem _ ih
theorem Wb.at {N : Nat} {ws : Wh} (h : Wb N ws) {b : Nat} (hb : b ∈ ws.map (·.1)) : (wv ws b).1.natAbs < N ∧ (wv ws b).2.natAbs < N := h.sm _ (wv_mem hb)
theorem Wb.put {N : Nat} {ws : Wh} (h : Wb N ws) {b : Nat} {p : Int × Int} (hp : p.1.natAbs < N ∧ p.2.natAbs < N) : Wb N (wput ws b p) := by
  refine ⟨?_, fun e he => ?_⟩
  · rw [wput_keys]
    split
    · exact h.nd
    · rename_i c
      rw [List.nodup_append]
      refine ⟨h.nd, by simp, fun x hx y hy z => ?_⟩
      have e1 : y = b := by simpa using hy
      obtain ⟨f, hf, rfl⟩ := List.mem_map.mp hx
      exact c (List.any_eq_true.mpr ⟨f, hf, decide_eq_true (z.trans e1)⟩)
  · unfold wput at he
    split at he
    · obtain ⟨f, hf, rfl⟩ := List.mem_map.mp he
      split
      · exact hp
      · exact h.sm f hf
    · rcases List.mem_append.mp he with z | z
      · exact h.sm e z
      · rw [List.mem_singleton.mp z]
        exact hp
/-- b left out -/
def wdrop (ws : Wh) (b : Nat) : Wh := ws.filter fun e => decide (e.1 ≠ b)
/-- the keys as whole numbers -/
def kz (ws : Wh) : List Int := ws.map fun e => ((e.1 : Nat) : Int)
theorem kz_len (ws : Wh) : (kz ws).length = ws.length := by unfold kz; rw [List.length_map]
theorem kz_mem {ws : Wh} {x : Int} : x ∈ kz ws ↔ ∃ b ∈ ws.map (·.1), x = ((b : Nat) : Int) := by
  unfold kz
  constructor
  · intro h
    obtain ⟨e, he, rfl⟩ := List.mem_map.mp h
    exact ⟨e.1, List.mem_map.mpr ⟨e, he, rfl⟩, rfl⟩
  · rintro ⟨b, hb, rfl⟩
    obtain ⟨e, he, rfl⟩ := List.mem_map.mp hb
    exact List.mem_map.mpr ⟨e, he, rfl⟩
theorem nodup_cast : ∀ {l : List Nat}, l.Nodup → (l.map fun b : Nat => ((b : Nat) : Int)).Nodup
  | [], _ => by simp
  | b :: l, h => by
    rw [List.nodup_cons] at h
    rw [List.map_cons, List.nodup_cons]
    refine ⟨fun z => ?_, nodup_cast h.2⟩
    obtain ⟨c, hc, e⟩ := List.mem_map.mp z
    have : c = b := by omega
    subst this
    exact h.1 hc
theorem kz_nodup {ws : Wh} (h : (ws.map (·.1)).Nodup) : (kz ws).Nodup := by
  have e : kz ws = (ws.map (·.1)).map fun b : Nat => ((b : Nat) : Int) := by
    unfold kz
    rw [List.map_map]
    rfl
  rw [e]
  exact nodup_cast h
section
variable {K : PySem.W.Frag} {H : Hp} {Q : VK} {ws us : Wh} {kvs : List (Key × V)} {a b : Addr}
theorem WR.here (h : WR K H ws kvs) {b : Nat} (hb : b ∈ ws.map (·.1)) : ∃ t, atZ kvs ((b : Nat) : Int) = some (.ref t) ∧ SqT K H t [.int (wv ws b).1, .int (wv ws b).2] := by
  rcases h.val b with ⟨_, e2⟩ | ⟨t, p, e1, e2, e3⟩
  · have := wat_mem hb
    rw [e2] at this
    cases this
  · refine ⟨t, e1, ?_⟩
    unfold wv
    rw [e3]
    exact e2
theorem WR.kints (h : WR K H ws kvs) : KInts kvs (kz ws) := by
  unfold KInts kz
  rw [h.keys, List.map_map, List.map_map]
  rfl
theorem WR.dget (h : WR K H ws kvs) (r : Rd H a (.dK kvs)) {b : Nat} (hb : b ∈ ws.map (·.1)) : ∃ t, DGet H a (.int ((b : Nat) : Int)) (some (.ref t)) ∧ SqT K H t [.int (wv ws b).1, .int (wv ws b).2] := by
  obtain ⟨t, e, s⟩ := h.here hb
  refine ⟨t, ?_, s⟩
  have := dget_z (i := ((b : Nat) : Int)) r
  rw [e] at this
  exact this
end
end Tw
namespace L2
open PySem PySem.Spec PyProof.Rows
/-- a comprehension over the list that an expression hands back -/
def sCompK (K : PySem.W.Frag) (tt : TT) (te : TE) (σ : St) (Q : VK) : V → Hp → Prop := fun x H => ∃ a, x = .ref a ∧ (∃ xs, SqL K H a xs) ∧ ∃ W : Nat → Nat → List V → Hp → Prop, (∃ m, W 0 m [] H) ∧ ∀ i m ys H, W i m ys H → ((Itl K a).stop i H ∧ ∀ p, H p = none → Q (.ref p) (upd H p (.lst ys))) ∨
      ((Itl K a).go i H ∧ ys.length < sizeLine ∧ ∃ N : List V → Hp → Prop, (∀ ys' H', N ys' H' → ∃ m', m' < m ∧ W (i + 1) m' ys' H') ∧
        ∀ x H', (Itl K a).yld i H x H' → tt (some x :: σ) H' fun b H2 => if b = true then te (some x :: σ) H2 fun y H3 => N (ys ++ [y]) H3 else N ys H2)
theorem st_cqE {K : PySem.W.Frag} {tl : TE} {tt : TT} {te : TE} {Q : VK} {σ : St} {H : Hp} (h : tl σ H (sCompK K tt te σ Q)) : tComp (iList K tl) tt te σ H Q := h
theorem st_cqAt {K : PySem.W.Frag} {a : Addr} {xs : List V} {tt : TT} {te : TE} {Q : VK} {σ : St} {H : Hp} (s : SqL K H a xs) (Pv : Nat → List V → Hp → Prop) (hn : xs.length ≤ 1000) (h0 : Pv 0 [] H) (hl : ∀ i ys H, Pv i ys H → ys.length ≤ i) (hk : ∀ i ys H, Pv i ys H → SqL K H a xs)
    (hs : ∀ i x ys H, xs[i]? = some x → Pv i ys H → tt (some x :: σ) H fun b H2 => if b = true then te (some x :: σ) H2 fun y H3 => Pv (i + 1) (ys ++ [y]) H3 else Pv (i + 1) ys H2)
    (hd : ∀ ys H, Pv xs.length ys H → ∀ p, H p = none → Q (.ref p) (upd H p (.lst ys))) : sCompK K tt te σ Q (.ref a) H := ⟨a, rfl, ⟨xs, s⟩, comp_lst Pv hn h0 hl hk hs hd⟩
end L2

set_option Elab.async false
set_option linter.all false
set_option maxRecDepth 100000
namespace L2
open PySem PySem.Spec PyProof.Rows
/-! texts of whole numbers, joined texts, texts with fields, a range downwards, a key in a dict -/
/-- the signs of a whole number written -/
def dec (i : Int) : List Nat := (Str.ofString (toString i)).cps.toList
theorem dec_T (i : Int) : V.str (toString i) = T (dec i) := congrArg V.str (str_T _)
theorem dec_len {i : Int} {k : Nat} (hk : 0 < k) (h : i.natAbs < 10 ^ k) : (dec i).length ≤ k + 1 := by
  have h1 := int_text_length_le10 hk h
  have e : (dec i).length = (Str.ofString (toString i)).length := by
    unfold dec Str.length
    rw [Array.length_toList]
  rw [e, PySem.ofString_length]
  exact h1
def inter (s : List Nat) : List (List Nat) → List Nat
  | [] => []
  | [l] => l
  | l :: m :: r => l ++ s ++ inter s (m :: r)
theorem join_inter (s : List Nat) : ∀ ls : List (List Nat), Txt.join ⟨s.toArray⟩ (ls.map fun l => (⟨l.toArray⟩ : Str)) = ⟨(inter s ls).toArray⟩ := by
  intro ls
  show Builtin.Str.glued _ _ = _
  rw [StrLaws.glued_eq_join]
  induction ls with
  | nil => rfl
  | cons l ls ih =>
    cases ls with
    | nil => rfl
    | cons m r =>
      show (⟨l.toArray⟩ : Str) ++ ⟨s.toArray⟩ ++ Str.join _ ((m :: r).map fun l => (⟨l.toArray⟩ : Str)) = _
      rw [ih, app_T, app_T]
      rfl
section
variable {X : Cx}
def rJoinG (K : PySem.W.Frag) : V → List V → Hp → VK → Prop := fun x vs H Q => ∃ p s ls, x = T s ∧ vs = [.ref p] ∧ SqL K H p (ls.map T) ∧ s.length ≤ 10 ∧ ls.length ≤ 1000 ∧ (∀ l ∈ ls, l.length ≤ 1000) ∧ Q (T (inter s ls)) H
theorem vals_TG : ∀ {ls : List (List Nat)} {us : List Value}, Vals (ls.map T) us → ∃ l : List (Str × Tok), us = strValues l ∧ l.map (·.1) = ls.map fun l => (⟨l.toArray⟩ : Str)
  | [], _, .nil => ⟨[], rfl, rfl⟩
  | c :: cs, _, .cons r rs => by
    obtain ⟨t, rfl⟩ := r
    obtain ⟨l, rfl, e⟩ := vals_TG rs
    exact ⟨(_, t) :: l, rfl, by rw [List.map_cons, e]; rfl⟩
theorem mt_joinG : MtR X "str.join" (rJoinG X.K) := by
  intro pins s σ H x xs v us Q I rx rs h
  obtain ⟨p, z, ls, rfl, rfl, hs, hz, hl, hb, q⟩ := h
  obtain ⟨t, rfl⟩ := rx
  obtain ⟨u, rfl, ru⟩ := Vals.one rs
  cases (show u = Value.ref p from ru)
  obtain ⟨its, rv, pl, _⟩ := I.list hs
  obtain ⟨l, rfl, e⟩ := vals_TG rv
  refine SC.join pl.isList e ?_ fun t' k => ?_
  · unfold JoinOk
    rw [Bool.not_eq_true', StrLaws.joinFits (B := 1000)]
    · intro y hy
      obtain ⟨c, hc, rfl⟩ := List.mem_map.mp hy
      rw [len_T]
      exact hb c hc
    · rw [List.length_map, len_T]
      have : ls.length * z.length ≤ 1000 * 10 := Nat.mul_le_mul hl hz
      omega
  · rw [join_inter]
    exact ⟨T (inter z ls), H, I.tok k, ⟨_, rfl⟩, q⟩
/-! fields -/
abbrev TF := St → Hp → (List Nat → Hp → Prop) → Prop
def PF (X : Cx) (e : Expr) (t : TF) : Prop := ∀ (pins : List (Addr × Obj)) (s : Shared) (σ : St) (H : Hp) (Q : List Nat → Hp → Prop), Inv X pins σ H s → t σ H Q →
  wpAny (model X.prog X.w) X.A (eval e X.env) (fun v s1 => ∃ l H1, Inv X pins σ H1 s1 ∧ RelV (T l) v ∧ Q l H1) X.xe s
def fLit (x : Str) : TF := fun _ H Q => Q x.cps.toList H
def fVal (te : TE) : TF := fun σ H Q => te σ H fun v H1 => (∃ l, v = T l ∧ l.length ≤ 1000 ∧ Q l H1) ∨ ∃ i : Int, v = .int i ∧ i.natAbs.log2 < 1920 ∧ Q (dec i) H1
theorem pf_lit {x : Str} {j pos} : PF X (.Constant (.str x) j pos) (fLit x) := fun _ _ _ H _ I h => Calls.Constant_str ⟨_, H, I.tok _, ⟨_, congrArg (fun z => Value.str z _) (str_T x)⟩, h⟩
theorem pf_val {e : Expr} {te : TE} {pos : Pos} (he : PE X e te) : PF X (.FormattedValue e (-1) none pos) (fVal te) := by
  intro pins s σ H Q I h
  refine FormattedValue_plain (thn (he pins s σ H _ I h) fun v s1 ⟨x, H1, I1, r1, q1⟩ => ?_)
  rcases q1 with ⟨l, rfl, hl, q⟩ | ⟨i, rfl, hi, q⟩
  · obtain ⟨t, rfl⟩ := r1
    exact formatField_str (fun t' tk => ⟨l, H1, I1.tok tk, ⟨t', rfl⟩, q⟩) (by rw [len_T]; exact Nat.le_of_lt (small1000 hl))
  · obtain ⟨t, rfl⟩ := r1
    exact wpAny_formatField_int hi ⟨dec i, H1, I1.tok _, ⟨_, congrArg (fun z => Value.str z _) (str_T _)⟩, q⟩
abbrev TFs := List Nat → St → Hp → (List Nat → Hp → Prop) → Prop
def PFs (X : Cx) (es : List Expr) (t : TFs) : Prop := ∀ (acc : List Nat) (pins : List (Addr × Obj)) (s : Shared) (σ : St) (H : Hp) (Q : List Nat → Hp → Prop), Inv X pins σ H s → t acc σ H Q →
  wpAny (model X.prog X.w) X.A (joinParts ⟨acc.toArray⟩ (evalEach es X.env)) (fun v s1 => ∃ l H1, Inv X pins σ H1 s1 ∧ RelV (T l) v ∧ Q l H1) X.xe s
def fNil : TFs := fun acc _ H Q => acc.length ≤ 1000 ∧ Q acc H
def fCons (t : TF) (ts : TFs) : TFs := fun acc σ H Q => t σ H fun l H1 => acc.length + l.length ≤ 1000 ∧ ts (acc ++ l) σ H1 Q
theorem pfs_nil : PFs X [] fNil := fun acc pins s σ H Q I ⟨hl, q⟩ => joinParts_nil ⟨acc, H, I.tok _, ⟨_, rfl⟩, q⟩ (by rw [len_T]; exact Nat.le_of_lt (small1000 hl))
theorem pfs_cons {e : Expr} {es : List Expr} {t : TF} {ts : TFs} (he : PF X e t) (hs : PFs X es ts) : PFs X (e :: es) (fCons t ts) := by
  intro acc pins s σ H Q I h
  show wpAny _ _ (joinParts ⟨acc.toArray⟩ (eval e X.env :: evalEach es X.env)) _ _ s
  refine joinParts_cons (thn (he pins s σ H _ I h) fun v s1 ⟨l, H1, I1, r1, hl, q1⟩ => ?_)
  obtain ⟨u, rfl⟩ := r1
  refine ⟨?_, ?_⟩
  · rw [app_T, len_T, List.length_append]
    exact Nat.le_of_lt (small1000 hl)
  · rw [app_T]
    exact hs (acc ++ l) pins s1 σ H1 Q I1 q1
def tFst (ts : TFs) : TE := fun σ H Q => ts [] σ H fun l H1 => Q (T l) H1
theorem pe_fst {e1 e2 : Expr} {es : List Expr} {ts : TFs} {pos : Pos} (h : PFs X (e1 :: e2 :: es) ts) : PE X (.JoinedStr (e1 :: e2 :: es) pos) (tFst ts) := by
  intro pins s σ H Q I q
  refine JoinedStr_many ?_
  exact thn (h [] pins s σ H _ I q) fun v s1 ⟨l, H1, I1, r1, q1⟩ => ⟨T l, H1, I1, r1, q1⟩
/-! a range downwards -/
def Itdn (n : Nat) : It := ⟨fun i _ => i < n, fun i H x H' => H' = H ∧ x = .int ((n : Int) - 1 - (i : Int)), fun i _ => n ≤ i⟩
end
theorem turn_dn {P : Program} {w : World} {K : PySem.W.Frag} {tg : Expr} (it : Addr) (n : Nat) : Turn P w K tg (Itdn n) [it] it (fun i h => IsRangeIter h it (((n : Int) - 1) + (i : Nat) * (-1)) ((n : Int) - (i : Nat)) (-1)) where
  mem := by simp
  obj := fun i h st b hb => by
    have e : b = it := by simpa using hb
    subst e
    exact ⟨_, st, fun v z => by
      have z' : Data.fields _ = Data.cell v := z
      cases z'⟩
  keep := fun i h h' st k => k it (by simp) _ st
  item := by
    intro X hP hw hK hc i pins s σ H E I hf st hg
    subst hP hw hK
    obtain ⟨f0, f1, f2, f3, f4, f5⟩ := hf it (by simp)
    have W := Walks.range (prog := X.prog) (w := X.w) (I.ok.hd hc) it ((n : Int) - 1) (-1) n
    refine W.item i s _ _ hg st fun v h' tk hv st' kk => ?_
    obtain ⟨t, rfl⟩ := hv
    have I1 : Inv X pins σ H { s with heap := h', toks := tk } := I.turned (fun b o hb e => kk b o (by simpa using hb) e) f0 f1 f3 f4 f5
    refine ⟨_, rfl, go_of (s := { s with heap := h', toks := tk }) (n := "range_iterator") st' rfl rfl (by decide) ⟨.int ((n : Int) - 1 - (i : Int)), H, I1, ⟨t, ?_⟩, ⟨rfl, rfl⟩, st', fun b hb => (hf b hb).1⟩⟩
    rw [show (n : Int) - 1 + (i : Int) * -1 = (n : Int) - 1 - (i : Int) by omega]
  done := by
    intro X hP hw hK hc i pins s σ H E I hf st hg
    subst hP hw hK
    obtain ⟨f0, f1, f2, f3, f4, f5⟩ := hf it (by simp)
    exact wpAny_pyNext_range_end (I.ok.hd hc) st (by have : n ≤ i := hg; omega) fun h' eb => ⟨rfl, I.turned (t' := s.toks) (fun b o hb e => eb b o hb e) f0 f1 f3 f4 f5⟩
  self := fun _ _ _ _ _ st h => wpAny_pyIter_rangeiter st h
theorem small_dn {n : Nat} (h : n ≤ 1000) : Builtin.Range.small ((n : Int) - 1) (-1) (-1) = true := by
  unfold Builtin.Range.small
  have e : Builtin.Range.rangeSize ((n : Int) - 1) (-1) (-1) = n := by
    unfold Builtin.Range.rangeSize
    rw [if_neg (by decide), show -(-1 : Int) = 1 from rfl, Int.ediv_one]
    split <;> omega
  rw [e]
  simp only [Builtin.Range.rangeFitsLong, Bool.and_eq_true, Bool.or_eq_true, decide_eq_true_eq, beq_iff_eq, show ¬ (-1 : Int) > 0 by decide, if_false]
  omega
section
variable {X : Cx} {tg : Expr}
/-- range(n - 1, -1, -1) -/
def iRngDn (ta : TA) : TI := fun σ H R => ta σ H fun vs H1 => ∃ n : Nat, vs = [.int ((n : Int) - 1), .int (-1), .int (-1)] ∧ n ≤ 1000 ∧ R (Itdn n) H1
theorem pi_range3 {a b c : Expr} {ta : TA} {p pos : Pos} (hg : Gl X "range") (hm : X.mg "range" = none) (ha : PA X [a, b, c] ta) (hs : starEach [a, b, c] X.env = [(false, eval a X.env), (false, eval b X.env), (false, eval c X.env)] := by rfl) (hs2 : starEach [b, c] X.env = [(false, eval b X.env), (false, eval c X.env)] := by rfl) :
    PI X tg (.Call (.Name "range" p) [a, b, c] [] pos) (iRngDn ta) := by
  intro pins s σ H R I h
  refine Call_ (ld_blt I hg hm boot_range (PyProof.Rows.callWith_type1 (thn (ha pos pins s σ H _ I h) fun us s1 ⟨vs, H1, I1, r1, q1⟩ => ?_) (by rw [hs, hs2]) (by rw [hs2]; rfl)))
  obtain ⟨n, e, hn, q⟩ := q1
  subst e
  cases r1 with
  | cons r rr =>
    cases rr with
    | cons r' rr =>
      cases rr with
      | cons r'' rr =>
        cases rr
        obtain ⟨t, rfl⟩ := r
        obtain ⟨t', rfl⟩ := r'
        obtain ⟨t'', rfl⟩ := r''
        refine call_range_3 (by decide) ?_ (Or.inl (PyProof.noPylong_small (by omega)))
        refine wpAny_pyIter_range (IsRange.new ..) (small_dn hn) ?_
        have I2 : Inv X pins σ H1 { s1 with heap := s1.heap.push { cls := .type "range", data := .fields #[.int ((n : Int) - 1) t, .int (-1) t', .int (-1) t''] }, toks := s1.toks } := I1.kept fun b o e => Heap.get?_push_of_some _ e
        refine ⟨(s1.heap.push { cls := .type "range", data := .fields #[.int ((n : Int) - 1) t, .int (-1) t', .int (-1) t''] }).objs.size, [(s1.heap.push { cls := .type "range", data := .fields #[.int ((n : Int) - 1) t, .int (-1) t', .int (-1) t''] }).objs.size], _, _, H1, rfl,
          I2.kept (t' := s1.toks) fun b o e => Heap.get?_push_of_some _ e, turn_dn _ n, ?_, fun b hb => ?_, q⟩
        · have e1 : ((n : Int) - 1) + ((0 : Nat) : Int) * (-1) = (n : Int) - 1 := by simp
          have e2 : ((n : Nat) : Int) - ((0 : Nat) : Int) = Builtin.Range.rangeSize ((n : Int) - 1) (-1) (-1) := by
            unfold Builtin.Range.rangeSize
            rw [if_neg (by decide), show -(-1 : Int) = 1 from rfl, Int.ediv_one]
            split <;> omega
          show IsRangeIter _ _ (((n : Int) - 1) + ((0 : Nat) : Int) * (-1)) (((n : Nat) : Int) - ((0 : Nat) : Int)) (-1)
          rw [e1, e2]
          exact Heap.get?_push_size _ rfl
        · have e : b = (s1.heap.push { cls := .type "range", data := .fields #[.int ((n : Int) - 1) t, .int (-1) t', .int (-1) t''] }).objs.size := by simpa using hb
          subst e
          exact I2.fpOk (Nat.le_refl _) (I2.hok.fresh (Nat.le_refl _))
/-- [.. for k in range(n - 1, -1, -1)] -/
theorem st_comp_dn {n : Nat} {ta : TA} {tt : TT} {te : TE} {Q : VK} {σ : St} {H : Hp} (hn : n ≤ 1000) (e : ∀ P : List V → Hp → Prop, P [.int ((n : Int) - 1), .int (-1), .int (-1)] H → ta σ H P) (Pv : Nat → List V → Hp → Prop) (h0 : Pv 0 [] H) (hl : ∀ i ys H, Pv i ys H → ys.length ≤ i)
    (hs : ∀ i ys H, i < n → Pv i ys H → tt (some (.int ((n : Int) - 1 - (i : Int))) :: σ) H fun b H2 => if b = true then te (some (.int ((n : Int) - 1 - (i : Int))) :: σ) H2 fun y H3 => Pv (i + 1) (ys ++ [y]) H3 else Pv (i + 1) ys H2)
    (hd : ∀ ys H, Pv n ys H → ∀ p, H p = none → Q (.ref p) (upd H p (.lst ys))) : tComp (iRngDn ta) tt te σ H Q := by
  refine e _ ⟨n, rfl, hn, fun i m ys H => m = n - i ∧ i ≤ n ∧ Pv i ys H, ⟨n, by simp, Nat.zero_le _, h0⟩, ?_⟩
  rintro i m ys H ⟨rfl, hi, p⟩
  by_cases hlt : i < n
  · refine .inr ⟨hlt, small1000 (by have := hl i ys H p; omega), Pv (i + 1), fun ys' H' p' => ⟨n - (i + 1), by omega, rfl, hlt, p'⟩, fun x H' y => ?_⟩
    obtain ⟨rfl, rfl⟩ := y
    exact hs i ys _ hlt p
  · have e : i = n := by omega
    subst e
    exact .inl ⟨Nat.le_refl _, hd ys H p⟩
/-- k in d -/
def rInD : R2 := fun x y H Q => ∃ a o, y = .ref a ∧ DGet H a x o ∧ Q (.bl o.isSome) H
theorem op_inD (hu : X.A.units + 1 < cLine) : OpR X (compareOp .In) rInD := by
  intro pins s σ H x y v u Q I rx ry h
  obtain ⟨a, o, rfl, g, q⟩ := h
  cases ry
  exact d_in hu I g rx fun s' I' => ⟨.bl _, H, I', rfl, q⟩
theorem st_joinG {K : PySem.W.Frag} {H : Hp} {Q : VK} {a : Addr} {z : List Nat} {ls : List (List Nat)} (s : SqL K H a (ls.map T)) (hz : z.length ≤ 10) (hl : ls.length ≤ 1000) (hb : ∀ l ∈ ls, l.length ≤ 1000) (q : Q (T (inter z ls)) H) : rJoinG K (T z) [.ref a] H Q := ⟨a, z, ls, rfl, rfl, s, hz, hl, hb, q⟩
end
end L2

set_option Elab.async false
set_option linter.all false
set_option maxRecDepth 100000
namespace L2
open PySem PySem.Spec PyProof.Rows
/-! for i, x in enumerate(xs): the list stays as it is. -/
def ItEn (K : PySem.W.Frag) (a : Addr) (n : Nat) : It :=
  ⟨fun i H => ∃ xs x, SqL K H a xs ∧ xs.length = n ∧ xs[i]? = some x, fun i H x H' => ∃ T v, H T = none ∧ x = .ref T ∧ (∀ xs, SqL K H a xs → xs[i]? = some v) ∧ H' = upd H T (.tup [.int (i : Int), v]), fun i H => ∃ xs, SqL K H a xs ∧ xs.length = n ∧ n ≤ i⟩
/-- an iterator's own objects are no list -/
theorem Inv.list_ne {X : Cx} {pins : List (Addr × Obj)} {σ : St} {H : Hp} {s : Shared} (I : Inv X pins σ H s) {fp : List Addr} (hf : ∀ b ∈ fp, FpOk X pins H b) {a : Addr} {xs : List V} (hq : SqL X.K H a xs) : ∀ b ∈ fp, a ≠ b := fun b hb z => by
  subst z
  obtain ⟨f0, _, _, f3, _⟩ := hf a hb
  rcases hq with (h | ⟨o, h⟩) | ⟨o, _, _, h, _⟩
  · rw [f0] at h; cases h
  · rw [f0] at h; cases h
  · have e := I.ok.mod.kin a o h
    rcases f3 with q | q
    · exact I.ok.noex a o e q
    · exact Nat.not_le.mpr (Nat.lt_of_lt_of_le (Heap.lt_size e) I.ok.bsz) q
theorem turn_enumL {P : Program} {w : World} {K : PySem.W.Frag} {elts : List Expr} {kk : Nat} {tpos : Pos} (a e it : Addr) (hne : e ≠ it) (n : Nat) :
    Turn P w K (.Tuple elts kk tpos) (ItEn K a n) [e, it] e (fun i h => ((∃ old, IsEnum h e it i old) ∧ h.IsListIter it a i) ∧ i ≤ n) where
  mem := by simp
  obj := fun i h st b hb => by
    rcases List.mem_cons.mp hb with r | r
    · subst r
      obtain ⟨⟨⟨old, q⟩, _⟩, _⟩ := st
      exact ⟨_, q, fun v z => by
        have z' : Data.fields _ = Data.cell v := z
        cases z'⟩
    · have r' : b = it := by simpa using r
      subst r'
      obtain ⟨⟨_, ⟨o, q, c, d⟩⟩, _⟩ := st
      exact ⟨o, q, fun v q => by rw [d] at q; cases q⟩
  keep := fun i h h' st k => by
    obtain ⟨⟨⟨old, q⟩, ⟨o, q2, r⟩⟩, l⟩ := st
    exact ⟨⟨⟨old, k e (by simp) _ q⟩, ⟨o, k it (by simp) o q2, r⟩⟩, l⟩
  item := by
    intro X hP hw hK hc i pins s σ H E I hf st hg
    subst hP hw hK
    obtain ⟨xs, x0, hq, hn, hx⟩ := hg
    obtain ⟨its, rv, pl, hz⟩ := I.list hq
    have hl := rv.length
    have hil : i < its.toArray.size := by
      have := (List.getElem?_eq_some_iff.mp hx).1
      rw [List.size_toArray]
      omega
    have al := I.list_ne hf hq
    have D := Draws.list (prog := X.prog) (w := X.w) (A := X.A.in1) (I.ok.hd hc) it a (al it (by simp)) its.toArray
    have W := WalksT.enumerateD (A := X.A) D e hne (by simp only [List.mem_cons, List.not_mem_nil, or_false, not_or]; exact ⟨hne, Ne.symm (al e (by simp))⟩) (by simp)
    refine W.item i s _ _ hil ⟨st.1.1, st.1.2, pl.isList⟩ fun T vals h' tk hv hT htup mid kk' => ?_
    obtain ⟨t1, u, hu, rfl⟩ := hv
    obtain ⟨u0, hu0, ru⟩ := rv.get hx
    have eu : u = u0 := by
      have h1 : its[i]? = some u := by simpa using hu
      rw [hu0] at h1
      exact (Option.some.inj h1).symm
    subst eu
    refine ⟨_, rfl, W.go elts kk tpos i T _ _ _ mid fun h2 st2 k2 => ?_⟩
    have hTw := W.apart i T _ mid
    have hH : H T = none := I.hok.fresh hT
    have kept : ∀ b o, b ∉ [e, it] → s.heap.get? b = some o → h2.get? b = some o := fun b o hb q => k2 b o hb (kk' b o hb q)
    have ntr : ∀ b v, H b = some v → b ∉ [e, it] := fun b v q hb => by
      have := (hf b (by simpa using hb)).1
      rw [q] at this; cases this
    have bT : ∀ b o, s.heap.get? b = some o → b ≠ T := fun b o q => Nat.ne_of_lt (Nat.lt_of_lt_of_le (Heap.lt_size q) hT)
    obtain ⟨oT, eT, cT, nT, dT⟩ := htup
    have eT2 := k2 T oT hTw eT
    have un : Un (frs X.stack) [e, it] H (upd H T (.tup [.int (i : Int), x0])) s.heap h2 :=
      ⟨fun b o q _ _ n3 => kept b o n3 q, fun b o q _ _ n3 => ⟨o.slots, kept b o n3 q⟩, fun b o q n _ => by rw [upd_ne (bT b o q)]; exact n, fun b o q n3 => ⟨o, kept b o n3 q⟩,
        fun b xs q => by rw [upd_ne (ne_of_none q hH)]; exact q, fun b o v q => by rw [upd_ne (ne_of_none q hH)]; exact q, fun b ps q => ⟨#[], by rw [upd_ne (ne_of_none q hH), q]; simp⟩⟩
    have hok : HOk X.prog X.w (upd H T (.tup [.int (i : Int), x0])) h2 := fun b v q => by
      by_cases hb : b = T
      · subst hb
        rw [upd_same] at q; cases q
        exact ⟨Nat.le_of_lt (small1000 (show (2 : Nat) ≤ 1000 by decide)), [.int (i : Int) t1, u], .cons ⟨_, rfl⟩ (.cons ru .nil), oT, eT2, cT, nT, dT⟩
      · rw [upd_ne hb] at q
        refine (I.hok b v q).stay (fun c' v' hc2 q' => ?_) (fun c' q' => by rw [upd_ne (ne_of_none q' hH)]; exact q') fun c' xs q' => by rw [upd_ne (ne_of_none q' hH)]; exact q'
        rcases hc2 with r | r
        · subst r; exact kept _ _ (ntr _ _ q) q'
        · exact kept _ _ (ntr _ _ r) q'
    refine ⟨.ref T, _, I.call' (s' := { s with heap := h2, toks := tk }) rfl un hok I.bare (fun b hb => ?_), rfl, ⟨T, x0, hH, rfl, fun ys hy => by rw [I.list_inj hy hq]; exact hx, rfl⟩, ⟨⟨st2.1, st2.2.1⟩, by rw [List.size_toArray] at hil; omega⟩, fun b hb => ?_⟩
    · obtain ⟨f0, f1, f2, f3, f4, f5⟩ := hf b hb
      exact ⟨f3, f1, f4, f5⟩
    · have hbT : b ≠ T := fun q => hTw (by rw [← q]; exact hb)
      rw [upd_ne hbT]; exact (hf b hb).1
  done := by
    intro X hP hw hK hc i pins s σ H E I hf st hg
    subst hP hw hK
    obtain ⟨xs, hq, hn, hg⟩ := hg
    obtain ⟨its, rv, pl, hz⟩ := I.list hq
    have hl := rv.length
    have al := I.list_ne hf hq
    have D := Draws.list (prog := X.prog) (w := X.w) (A := X.A.in1) (I.ok.hd hc) it a (al it (by simp)) its.toArray
    have W := WalksT.enumerateD (A := X.A) D e hne (by simp only [List.mem_cons, List.not_mem_nil, or_false, not_or]; exact ⟨hne, Ne.symm (al e (by simp))⟩) (by simp)
    have ei : i = its.toArray.size := by have := st.2; rw [List.size_toArray]; omega
    refine W.done s _ _ (ei ▸ ⟨st.1.1, st.1.2, pl.isList⟩) fun h2 tk kk' => ⟨rfl, ?_⟩
    have ntr : ∀ b v, H b = some v → b ∉ [e, it] := fun b v q hb => by
      have := (hf b (by simpa using hb)).1
      rw [q] at this; cases this
    have un : Un (frs X.stack) [e, it] H H s.heap h2 :=
      ⟨fun b o q _ _ n3 => kk' b o n3 q, fun b o q _ _ n3 => ⟨o.slots, kk' b o n3 q⟩, fun b o q n _ => n, fun b o q n3 => ⟨o, kk' b o n3 q⟩, fun _ _ q => q, fun _ _ _ q => q, fun b ps q => ⟨#[], by rw [q]; simp⟩⟩
    have hok : HOk X.prog X.w H h2 := fun b v q => by
      refine (I.hok b v q).stay (fun c' v' hc2 q' => ?_) (fun _ q' => q') fun _ _ q' => q'
      rcases hc2 with r | r
      · subst r; exact kk' _ _ (ntr _ _ q) q'
      · exact kk' _ _ (ntr _ _ r) q'
    exact I.call' (s' := { s with heap := h2, toks := tk }) rfl un hok I.bare fun b hb => by
      obtain ⟨f0, f1, f2, f3, f4, f5⟩ := hf b hb
      exact ⟨f3, f1, f4, f5⟩
  self := fun _ _ _ _ _ st h => by
    obtain ⟨⟨⟨old, q⟩, _⟩, _⟩ := st
    exact wpAny_pyIter_enum q h
section
variable {X : Cx} {tg : Expr}
def iEnumL (K : PySem.W.Frag) (ta : TA) : TI := fun σ H R => ta σ H fun vs H1 => ∃ a xs, vs = [.ref a] ∧ SqL K H1 a xs ∧ R (ItEn K a xs.length) H1
theorem boot_enumL : bootBuiltins "enumerate" = some (.type "enumerate") := by decide +kernel
theorem pi_enumL {elts : List Expr} {kk : Nat} {tpos : Pos} {a : Expr} {ta : TA} {p pos : Pos} (hg : Gl X "enumerate") (hm : X.mg "enumerate" = none) (ha : PA X [a] ta) (hs : starEach [a] X.env = [(false, eval a X.env)] := by rfl) :
    PI X (.Tuple elts kk tpos) (.Call (.Name "enumerate" p) [a] [] pos) (iEnumL X.K ta) := by
  intro pins s σ H R I h
  refine Call_ (ld_blt I hg hm boot_enumL (PyProof.Rows.callWith_type1 (thn (ha pos pins s σ H _ I h) fun us s1 ⟨vs, H1, I1, r1, q1⟩ => ?_) hs rfl))
  obtain ⟨b, xs, rfl, hq, q⟩ := q1
  obtain ⟨u, rfl, ru⟩ := Vals.one r1
  cases ru
  obtain ⟨its, rv, pl, hz⟩ := I1.list hq
  refine call_enumerate_list pl.isList fun h' he hit hsz hk => ?_
  refine wpAny_pyIter_enum he ?_
  refine ⟨s1.heap.objs.size + 1, [s1.heap.objs.size + 1, s1.heap.objs.size], _, _, H1, rfl, I1.kept (t' := s1.toks) hk, turn_enumL b _ _ (Nat.succ_ne_self _) xs.length, ⟨⟨⟨_, he⟩, hit⟩, Nat.zero_le _⟩, fun c hb => ?_, q⟩
  have hb' : s1.heap.objs.size ≤ c := by
    rcases List.mem_cons.mp hb with r | r
    · rw [r]; exact Nat.le_succ _
    · have : c = s1.heap.objs.size := by simpa using r
      rw [this]; exact Nat.le_refl _
  exact I1.fpOk hb' (I1.hok.fresh hb')
end
section
variable {K : PySem.W.Frag} {a : Addr} {xs : List V} {g : TG} {tb : TS} {D : Ends} {σ : St} {H : Hp}
def sForEn (K : PySem.W.Frag) (g : TG) (tb : TS) (D : Ends) (σ : St) : List V → Hp → Prop := fun vs H1 => ∃ a xs, vs = [.ref a] ∧ SqL K H1 a xs ∧ ∃ W : Nat → Nat → St → Hp → Prop, (∃ m, W 0 m σ H1) ∧ ∀ i m σ H, W i m σ H →
  ((ItEn K a xs.length).stop i H ∧ D.nx σ H) ∨ ((ItEn K a xs.length).go i H ∧ ∃ N : St → Hp → Prop, (∀ σ' H', N σ' H' → ∃ m', m' < m ∧ W (i + 1) m' σ' H') ∧ ∀ x H', (ItEn K a xs.length).yld i H x H' → g x σ H' fun σ2 H2 => tb { D with nx := N, ct := N, bk := D.nx } σ2 H2)
theorem st_enE {ta : TA} (h : ta σ H (sForEn K g tb D σ)) : tFor (iEnumL K ta) g tb D σ H := h
theorem st_enAt (s : SqL K H a xs) (Pv : Nat → St → Hp → Prop) (h0 : Pv 0 σ H) (hl : ∀ i σ H, i ≤ xs.length → Pv i σ H → SqL K H a xs)
    (hs : ∀ i x σ H p, xs[i]? = some x → Pv i σ H → H p = none → g (.ref p) σ (upd H p (.tup [.int (i : Int), x])) fun σ2 H2 => tb { D with nx := Pv (i + 1), ct := Pv (i + 1), bk := D.nx } σ2 H2) (hd : ∀ σ H, Pv xs.length σ H → D.nx σ H) : sForEn K g tb D σ [.ref a] H := by
  refine ⟨a, xs, rfl, s, fun i m σ H => m = xs.length - i ∧ i ≤ xs.length ∧ Pv i σ H, ⟨xs.length, by simp, Nat.zero_le _, h0⟩, ?_⟩
  rintro i m σ H ⟨rfl, hi, p⟩
  have q := hl i σ H hi p
  by_cases hlt : i < xs.length
  · refine .inr ⟨⟨xs, xs[i], q, rfl, by simp [hlt]⟩, Pv (i + 1), fun σ' H' p' => ⟨xs.length - (i + 1), by omega, rfl, hlt, p'⟩, fun x H' y => ?_⟩
    obtain ⟨T, v, hT, rfl, hv, rfl⟩ := y
    exact hs i v σ H T (hv xs q) p hT
  · have e : i = xs.length := by omega
    subst e
    exact .inl ⟨⟨xs, q, rfl, Nat.le_refl _⟩, hd σ H p⟩
end
end L2

set_option Elab.async false
set_option linter.all false
set_option maxRecDepth 100000
namespace Tw
open PySem L2
/-! Lines of rows and of wholes. -/
def word (r : Row) (n : Nat) : List Nat := minus r.m :: signs r.x r.z n
theorem word_len (r : Row) (n : Nat) : (word r n).length = n + 1 := by unfold word; rw [List.length_cons, signs_len]
theorem inter_snoc (s : List Nat) : ∀ (ls : List (List Nat)) (x : List Nat), inter s (ls ++ [x]) = if ls = [] then x else inter s ls ++ s ++ x
  | [], x => rfl
  | [l], x => by
    rw [if_neg (by simp)]
    show l ++ s ++ inter s [x] = inter s [l] ++ s ++ x
    rfl
  | l :: m :: r, x => by
    have ih := inter_snoc s (m :: r) x
    rw [if_neg (by simp)] at ih ⊢
    show l ++ s ++ inter s ((m :: r) ++ [x]) = (l ++ s ++ inter s (m :: r)) ++ s ++ x
    rw [ih]
    simp only [List.append_assoc]
theorem inter_len (s : List Nat) {B : Nat} : ∀ {ls : List (List Nat)}, (∀ l ∈ ls, l.length ≤ B) → (inter s ls).length ≤ ls.length * (B + s.length)
  | [], _ => by simp [inter]
  | [l], h => by
    have := h l List.mem_cons_self
    show l.length ≤ 1 * (B + s.length)
    omega
  | l :: m :: r, h => by
    have h1 := h l List.mem_cons_self
    have h2 := inter_len s (ls := m :: r) fun x hx => h x (List.mem_cons_of_mem _ hx)
    show (l ++ s ++ inter s (m :: r)).length ≤ ((m :: r).length + 1) * (B + s.length)
    rw [List.length_append, List.length_append, Nat.add_mul]
    omega
/-- a bit written -/
def dg (b : Bool) : Nat := if b then 49 else 48
theorem dec_bit (b : Bool) : dec (bI b) = [dg b] := by cases b <;> decide +kernel
theorem bit_log (b : Bool) : (bI b).natAbs.log2 < 1920 := by cases b <;> decide
theorem log_small {n : Nat} (h : n < 10 ^ 31) : n.log2 < 1920 := by
  rcases Nat.eq_zero_or_pos n with z | z
  · rw [z]; decide
  · exact Nat.lt_trans ((Nat.log2_lt (Nat.ne_of_gt z)).mpr (Nat.lt_trans h (show 10 ^ 31 < 2 ^ 104 by decide))) (by decide)
/-- the bits of b for n wires, the last one ahead -/
def figs (b n : Nat) : List Nat := (List.range n).map fun i => dg (b.testBit (n - 1 - i))
theorem figs_len (b n : Nat) : (figs b n).length = n := by simp [figs]
/-- from below: the first k bits, the last one ahead -/
theorem figs_succ (b k : Nat) : figs b (k + 1) = dg (b.testBit k) :: figs b k := by
  unfold figs
  rw [List.range_succ_eq_map, List.map_cons, List.map_map]
  congr 1
  apply List.map_congr_left
  intro i hi
  have := List.mem_range.mp hi
  show dg (b.testBit (k + 1 - 1 - (i + 1))) = dg (b.testBit (k - 1 - i))
  congr 2
  omega
def amount (b n : Nat) (p : Int × Int) : List Nat := figs b n ++ [32] ++ dec p.1 ++ [32] ++ dec p.2
theorem amount_len {b n : Nat} {p : Int × Int} (h1 : p.1.natAbs < 10 ^ 31) (h2 : p.2.natAbs < 10 ^ 31) : (amount b n p).length ≤ n + 66 := by
  have a := dec_len (k := 31) (by decide) h1
  have c := dec_len (k := 31) (by decide) h2
  unfold amount
  simp only [List.length_append, figs_len, List.length_cons, List.length_nil]
  omega
/-- the keys below 2 ** n, rising -/
def ksrt (ws : Wh) (m : Nat) : List Nat := (List.range m).filter fun b => decide (b ∈ ws.map (·.1))
theorem ksrt_mem {ws : Wh} {m b : Nat} : b ∈ ksrt ws m ↔ b < m ∧ b ∈ ws.map (·.1) := by
  unfold ksrt
  rw [List.mem_filter, List.mem_range, decide_eq_true_eq]
theorem ksrt_succ (ws : Wh) (m : Nat) : ksrt ws (m + 1) = if m ∈ ws.map (·.1) then ksrt ws m ++ [m] else ksrt ws m := by
  unfold ksrt
  rw [List.range_succ, List.filter_append]
  by_cases h : m ∈ ws.map (·.1)
  · rw [if_pos h, List.filter_cons, if_pos (decide_eq_true h)]
    rfl
  · rw [if_neg h, List.filter_cons, if_neg (by rw [decide_eq_false h]; decide)]
    simp
theorem ksrt_up (ws : Wh) (m : Nat) : (ksrt ws m).Pairwise (· < ·) := List.Pairwise.filter _ List.pairwise_lt_range
theorem ksrt_eq {ws : Wh} {m : Nat} {ms : List Int} (nd : (ws.map (·.1)).Nodup) (hk : ∀ b ∈ ws.map (·.1), b < m) (pm : ms.Perm (kz ws)) (up : ms.Pairwise (· ≤ ·)) : ms = (ksrt ws m).map fun b : Nat => ((b : Nat) : Int) := by
  have up2 : ((ksrt ws m).map fun b : Nat => ((b : Nat) : Int)).Pairwise (· ≤ ·) := List.pairwise_map.mpr ((ksrt_up ws m).imp fun h => by omega)
  have nd2 : ((ksrt ws m).map fun b : Nat => ((b : Nat) : Int)).Nodup := nodup_cast ((ksrt_up ws m).imp fun h => by omega)
  have p : (kz ws).Perm ((ksrt ws m).map fun b : Nat => ((b : Nat) : Int)) := (List.perm_ext_iff_of_nodup (kz_nodup nd) nd2).mpr fun a => by
    rw [kz_mem, List.mem_map]
    constructor
    · rintro ⟨b, hb, rfl⟩
      exact ⟨b, ksrt_mem.mpr ⟨hk b hb, hb⟩, rfl⟩
    · rintro ⟨b, hb, rfl⟩
      exact ⟨b, (ksrt_mem.mp hb).2, rfl⟩
  exact List.Perm.eq_of_pairwise (fun a b _ _ h1 h2 => Int.le_antisymm h1 h2) up up2 (pm.trans p)
theorem ksrt_len {ws : Wh} {m : Nat} (nd : (ws.map (·.1)).Nodup) : (ksrt ws m).length ≤ ws.length := by
  have nd2 : (ksrt ws m).Nodup := (ksrt_up ws m).imp fun h => by omega
  have h := List.Nodup.length_le_of_subset nd2 (fun b hb => (ksrt_mem.mp hb).2 : ∀ b ∈ ksrt ws m, b ∈ ws.map (·.1))
  rw [List.length_map] at h
  exact h
/-! rows in lists, told to be the same -/
def rDt (r : Row) : PyData := .tuple [.int (r.m : Nat), .int (r.x : Nat), .int (r.z : Nat)]
theorem rDt_ok (r : Row) : (rDt r).canLay0 = true ∧ (rDt r).depth ≤ 1 := ⟨rfl, by show _ ≤ 1; simp [rDt, PyData.depth, PyData.depthAll]⟩
theorem rDt_eqv (r : Row) : PyData.eqv (rDt r) (rDt r) = true := by
  have := eqv_ints [(r.m : Int), (r.x : Int), (r.z : Int)] [(r.m : Int), (r.x : Int), (r.z : Int)]
  unfold rDt
  rw [PyData.eqv]
  exact this.trans (decide_eq_true rfl)
theorem lay_rt : ∀ rs : List Row, PyData.canLayAll0 (rs.map rDt) = true
  | [] => rfl
  | d :: r => by
    rw [List.map_cons, PyData.canLayAll0, (rDt_ok d).1, lay_rt r]
    rfl
theorem depth_rt : ∀ rs : List Row, PyData.depthAll (rs.map rDt) ≤ 1
  | [] => by simp [PyData.depthAll]
  | d :: r => by
    have h1 := (rDt_ok d).2
    have h2 := depth_rt r
    rw [List.map_cons, PyData.depthAll]
    omega
theorem eqv_rt : ∀ rs : List Row, PyData.eqvAll (rs.map rDt) (rs.map rDt) = true
  | [] => rfl
  | d :: r => by simp [PyData.eqvAll, rDt_eqv d, eqv_rt r]
theorem shaped_rt (rs : List Row) : SeqAt.shaped (.list (rs.map rDt)) = true := by
  have h := depth_rt rs
  unfold SeqAt.shaped
  rw [PyData.canLay0, PyData.depth, lay_rt, Bool.true_and, decide_eq_true_eq]
  omega
theorem dvs_rt {K : PySem.W.Frag} {H : Hp} : ∀ {as : List Addr} {rs : List Row}, Paired (fun a (r : Row) => SqT K H a (Row.V r)) as rs → DVs K H (as.map V.ref) (rs.map rDt)
  | _, _, .nil => .nil
  | _, _, .cons h t => .cons (.tup h (.cons (.int _) (.cons (.int _) (.cons (.int _) .nil)))) (dvs_rt t)
theorem st_neRt {K : PySem.W.Frag} {H : Hp} {Q : VK} {a b : Addr} {as bs : List Addr} {rs : List Row} (ha : SqL K H a (as.map V.ref)) (hb : SqL K H b (bs.map V.ref)) (h1 : Paired (fun a (r : Row) => SqT K H a (Row.V r)) as rs) (h2 : Paired (fun a (r : Row) => SqT K H a (Row.V r)) bs rs) (q : Q (.bl false) H) : rNeD K (.ref a) (.ref b) H Q :=
  ⟨_, _, .lst ha (dvs_rt h1), .lst hb (dvs_rt h2), shaped_rt rs, shaped_rt rs, by rw [PyData.eqv, eqv_rt]; exact q⟩
theorem pr_get {α β : Type} {F : α → β → Prop} : ∀ {as : List α} {bs : List β}, Paired F as bs → ∀ {i : Nat} {a : α}, as[i]? = some a → ∃ b, bs[i]? = some b ∧ F a b
  | _, _, .nil, i, a, e => by simp at e
  | _, _, .cons h t, 0, a, e => by
    have e' := Option.some.inj e
    subst e'
    exact ⟨_, rfl, h⟩
  | _, _, .cons h t, i + 1, a, e => pr_get t e
theorem pr_len {α β : Type} {F : α → β → Prop} : ∀ {as : List α} {bs : List β}, Paired F as bs → as.length = bs.length
  | _, _, .nil => rfl
  | _, _, .cons h t => congrArg (· + 1) (pr_len t)
theorem ref_at {as : List Addr} {i : Nat} {x : V} (h : (as.map V.ref)[i]? = some x) : ∃ a : Addr, x = .ref a ∧ as[i]? = some a := by
  rw [List.getElem?_map] at h
  cases e : as[i]? with
  | none => rw [e] at h; cases h
  | some k => rw [e] at h; exact ⟨k, (Option.some.inj h).symm, rfl⟩
theorem whole_ne {K : PySem.W.Frag} {H : Hp} {Q : VK} {a b : Addr} {ws : Wh} (ha : WhAt K H a ws) (hb : WhAt K H b ws) (nd : (ws.map (·.1)).Nodup) (q : Q (.bl false) H) : rEqM true K (.ref a) (.ref b) H Q := by
  obtain ⟨k1, h1, w1⟩ := ha
  obtain ⟨k2, h2, w2⟩ := hb
  refine st_eqM (.inl h1) (.inl h2) (w1.dv nd) (w2.dv nd) ?_
  rw [w1.same w2 rfl (fun _ => rfl) fun b hb => wat_mem hb]
  exact q
theorem at3m {a b c : V} (x : Int) : ∃ v, (v = a ∨ v = b ∨ v = c) ∧ atI [a, b, c] (x % 3) = some v := by
  obtain ⟨m, e, hm⟩ := emod_nat x (n := 3) (by decide)
  have e2 : x % 3 = (m : Int) := e
  rw [e2]
  have z : m = 0 ∨ m = 1 ∨ m = 2 := by omega
  rcases z with rfl | rfl | rfl
  · exact ⟨a, .inl rfl, atI_nat (j := 0) rfl⟩
  · exact ⟨b, .inr (.inl rfl), atI_nat (j := 1) rfl⟩
  · exact ⟨c, .inr (.inr rfl), atI_nat (j := 2) rfl⟩
end Tw
namespace L2
open PySem PySem.Spec PyProof.Rows
theorem op_catTK {X : Cx} {K : PySem.W.Frag} (h : X.K = K) : OpR X (binaryOp .Add) (rCatT K) := h ▸ op_catT
theorem st_fst {ts : TFs} {σ : St} {H : Hp} {Q : VK} (h : ts [] σ H fun l H1 => Q (T l) H1) : tFst ts σ H Q := h
theorem st_fval {te : TE} {σ : St} {H : Hp} {Q : List Nat → Hp → Prop} (h : te σ H fun v H1 => (∃ l, v = T l ∧ l.length ≤ 1000 ∧ Q l H1) ∨ ∃ i : Int, v = .int i ∧ i.natAbs.log2 < 1920 ∧ Q (dec i) H1) : fVal te σ H Q := h
theorem st_flit {x : Str} {σ : St} {H : Hp} {Q : List Nat → Hp → Prop} (h : Q x.cps.toList H) : fLit x σ H Q := h
theorem st_fcons {t : TF} {ts : TFs} {acc : List Nat} {σ : St} {H : Hp} {Q : List Nat → Hp → Prop} (h : t σ H fun l H1 => acc.length + l.length ≤ 1000 ∧ ts (acc ++ l) σ H1 Q) : fCons t ts acc σ H Q := h
theorem st_fnil {acc : List Nat} {σ : St} {H : Hp} {Q : List Nat → Hp → Prop} (hl : acc.length ≤ 1000) (h : Q acc H) : fNil acc σ H Q := ⟨hl, h⟩
end L2

set_option Elab.async false
set_option linter.all false
set_option maxRecDepth 100000
set_option maxHeartbeats 4000000
namespace L2
open PySem
end L2
namespace Tw
open PySem L2
local macro_rules | `(tactic| fail "la") => `(tactic| first | (with_reducible assumption) | exact upd_same | (with_reducible refine' upd_get ?s1 ?s2; (case s1 => with_reducible assumption); (case s2 => fail "la")))
local macro_rules | `(tactic| fail "sq") => `(tactic| first | (with_reducible assumption) | (with_reducible apply SqT.of upd_same) | (with_reducible apply SqL.of upd_same) | (with_reducible apply SqT.of; with_reducible assumption) | (with_reducible apply SqL.of; with_reducible assumption) | (with_reducible apply SqT.upd <;> first | (with_reducible assumption) | fail "sq") | (with_reducible apply SqL.upd <;> first | (with_reducible assumption) | fail "sq") | (with_reducible refine' Same.tup ?s1 ?s2; (case s1 => with_reducible assumption); (case s2 => fail "sq")) | (with_reducible refine' Same.seq ?s1 ?s2; (case s1 => with_reducible assumption); (case s2 => fail "sq")))
local macro_rules | `(tactic| fail "st") => `(tactic| dsimp only [cxOf_K])
local macro_rules | `(tactic| fail "sd") => `(tactic| first | omega | exact pow_pos2 _ | exact pow_le100 (by omega) | exact cdivw_pow (by omega) | exact cpow_n (by omega) | exact ⟨by decide, by decide⟩ | exact .inl ⟨by decide, by decide⟩ | decide)
local macro_rules | `(tactic| fail "tv") => `(tactic| ((with_reducible refine' st_var ?e1 ?h1); (case e1 => exact rfl)))
local macro_rules | `(tactic| fail "tx") => `(tactic| ((with_reducible refine' st_ixT ?s1 ?e1 ?h1); (case s1 => fail "sq"); (case e1 => exact rfl)))
local macro_rules | `(tactic| fail "tl") => `(tactic| ((with_reducible refine' st_ixL ?s1 ?e1 ?h1); (case s1 => fail "sq"); (case e1 => first | assumption | exact rfl)))
local macro_rules | `(tactic| fail "tg") => `(tactic| ((with_reducible refine' st_gtup ?s1 ?e1 ?h1); (case s1 => fail "sq"); (case e1 => exact rfl)))
local macro_rules | `(tactic| fail "ti") => `(tactic| ((with_reducible refine st_i ?c1 ?h1); (case c1 => fail "sd")))
local macro_rules | `(tactic| fail "ts") => `(tactic| ((with_reducible refine st_shl1 ?c1 ?h1); (case c1 => fail "sd")))
local macro_rules | `(tactic| fail "tm") => `(tactic| ((with_reducible refine st_modN ?c1 ?h1); (case c1 => fail "sd"); intro _ _ _))
local macro_rules | `(tactic| fail "td") => `(tactic| ((with_reducible refine st_divN ?c1 ?c2 ?h1); (case c1 => fail "sd"); (case c2 => fail "sd")))
local macro_rules | `(tactic| fail "tz") => `(tactic| ((with_reducible refine st_size ?c1 ?h1); (case c1 => exact rfl)))
local macro_rules | `(tactic| fail "sl") => `(tactic| ((with_reducible refine' st_slL ?s1 ?h1); (case s1 => fail "sq")))
local macro_rules | `(tactic| fail "n2") => `(tactic| ((with_reducible first | refine' rNeD_2 ?s1 ?s2 ?h1 | refine' rEqD_2 ?s1 ?s2 ?h1 | refine' rNeD_3 ?s1 ?s2 ?h1 | refine' rEqD_3 ?s1 ?s2 ?h1); (case s1 => fail "sq"); (case s2 => fail "sq")))
local macro_rules | `(tactic| fail "sm") => `(tactic| first | (with_reducible assumption) | exact Same.refl _ | (with_reducible refine' Same.updR ?s1 ?s2; (case s2 => with_reducible assumption); (case s1 => fail "sm")) | (with_reducible refine' Same.trans ?s1 ?s2; (case s2 => with_reducible assumption); (case s1 => fail "sm")))
local macro_rules | `(tactic| fail "is") => `(tactic| ((with_reducible refine' st_isi ?s1 ?s2 ?h1); (case s1 => first | exact TyOf.bl _ | exact TyOf.int _ | exact TyOf.str _ | exact TyOf.non | exact TyOf.tup upd_same | exact TyOf.lst upd_same | (with_reducible refine' TyOf.tup ?e9; (case e9 => fail "la")) | (with_reducible refine' TyOf.lst ?e9; (case e9 => fail "la")) | exact TyOf.dK upd_same); (case s2 => first | exact kit_NoneType_int | exact kit_NoneType_bool | exact kit_NoneType_str | exact kit_NoneType_tuple | exact kit_NoneType_list | exact kit_NoneType_dict | exact kit_bool_int | exact kit_bool_bool | exact kit_bool_str | exact kit_bool_tuple | exact kit_bool_list | exact kit_bool_dict | exact kit_int_int | exact kit_int_bool | exact kit_int_str | exact kit_int_tuple | exact kit_int_list | exact kit_int_dict | exact kit_str_int | exact kit_str_bool | exact kit_str_str | exact kit_str_tuple | exact kit_str_list | exact kit_str_dict | exact kit_list_int | exact kit_list_bool | exact kit_list_str | exact kit_list_tuple | exact kit_list_list | exact kit_list_dict | exact kit_tuple_int | exact kit_tuple_bool | exact kit_tuple_str | exact kit_tuple_tuple | exact kit_tuple_list | exact kit_tuple_dict | exact kit_dict_int | exact kit_dict_bool | exact kit_dict_str | exact kit_dict_tuple | exact kit_dict_list | exact kit_dict_dict)))
local macro_rules | `(tactic| fail "h0") => `(tactic| first | with_reducible refine st_andS ?_ | with_reducible refine st_andB ?_ | with_reducible refine st_and1 ?_ | with_reducible refine st_chain ?_ | with_reducible refine st_dnew ?_ | with_reducible refine st_yes ?_ | ((with_reducible refine' st_lstT ?s1 ?h1); (case s1 => fail "sq")) | with_reducible refine st_raise ?_ | with_reducible refine st_try ?_ | ((with_reducible refine st_shlB ?c1 ?h1); (case c1 => omega)) | ((with_reducible refine' st_in01 ?s1 ?c1 ?h1); (case s1 => fail "sq"); (case c1 => omega)))
local macro_rules | `(tactic| fail "h1") => `(tactic| with_reducible first | refine st_seq ?_ | refine st_asg ?_ | refine st_gname ?_ | refine st_op ?_ | refine st_c ?_ | refine st_if ?_ | refine st_ret ?_ | refine st_test ?_ | refine st_bl ?_ | refine st_cons ?_ | refine st_nil ?_ | refine st_call ?_ | refine st_tup ?_ | refine st_and ?_ | refine st_or ?_ | refine st_not ?_ | refine st_andN ?_ | refine st_orN ?_ | refine st_xorN ?_ | refine st_bit ?_ | refine st_i0 ?_ | refine st_shrN ?_ | refine st_eqi ?_ | refine st_nei ?_ | refine st_eqb ?_ | refine st_neb ?_ | refine st_eqs ?_ | refine st_nes ?_ | refine st_cb ?_ | refine st_lst ?_ | refine st_next ?_ | refine st_retN ?_ | refine st_drop ?_ | refine st_gcons ?_ | refine st_gnil ?_ | refine st_un ?_ | refine st_u ?_ | refine st_tB ?_ | refine st_andV ?_ | refine st_orV ?_ | refine st_notV ?_ | refine st_ifE ?_ | refine st_part ?_ | refine st_int ?_ | refine st_nopart ?_ | refine st_sl ?_)
local macro_rules | `(tactic| fail "h2") => `(tactic| first | with_reducible refine st_bm0 ?_ | with_reducible refine st_bm ?_ | with_reducible refine st_tyI ?_ | with_reducible refine st_tyS ?_ | with_reducible refine st_bitlen ?_ | ((with_reducible refine' st_tyL ?s1 ?h1); (case s1 => fail "sq")) | ((with_reducible refine' st_lenL ?s1 ?h1); (case s1 => fail "sq")) | ((with_reducible refine' st_lenT ?s1 ?h1); (case s1 => fail "sq")) | ((with_reducible refine' st_cat ?s1 ?s2 ?s3 ?h1); (case s1 => fail "la"); (case s2 => fail "la"); (case s3 => first | omega | (simp only [List.length_append, List.length_map, List.length_cons, List.length_nil]; omega))) | ((with_reducible refine' st_append ?s1 ?s2 ?h1); (case s1 => fail "la"); (case s2 => first | omega | (simp only [List.length_append, List.length_map, List.length_cons, List.length_nil]; omega))))
local macro_rules | `(tactic| fail "go") => `(tactic| repeat (first | fail "tv" | fail "h0" | fail "h1" | fail "tx" | fail "tl" | fail "ts" | fail "tm" | fail "td" | fail "ti" | fail "tz" | fail "tg" | fail "sl" | fail "n2" | fail "is" | fail "h2" | with_reducible refine iteT ?_ | with_reducible refine iteF ?_ | with_reducible refine iteNT ?_ | with_reducible refine iteNF ?_ | with_reducible refine (fun (p : Addr) (hp : _ = none) => ?_ : ∀ p : Addr, _ = none → _) | dsimp only [Bool.not_true, Bool.not_false]))
local macro_rules | `(tactic| fail "h2") => `(tactic| with_reducible first | refine st_fld ?_ | refine st_put ?_ | refine st_make ?_ | refine st_md ?_ | refine st_intB ?_)
local macro_rules | `(tactic| fail "tx") => `(tactic| ((with_reducible refine' st_ixT ?s1 ?e1 ?h1); (case s1 => fail "sq"); (case e1 => first | exact at0 _ _ | exact at1 _ _ _)))
local macro_rules | `(tactic| fail "h0") => `(tactic| with_reducible first | refine st_xorBB ?_ | refine st_xorNB ?_ | refine st_sub1B ?_)
local macro_rules | `(tactic| fail "h0") => `(tactic| with_reducible first | refine st_dget2 ?_ | refine st_dput ?_)
local macro_rules | `(tactic| fail "kw1") => `(tactic| first | ((with_reducible refine' ite_t ?e9 ?h9); (case e9 => decide +kernel)) | ((with_reducible refine' ite_f ?e9 ?h9); (case e9 => decide +kernel)))
local macro_rules | `(tactic| fail "kw") => `(tactic| (fail "go"; repeat (fail "kw1"; fail "go")))
theorem hu_of64 {A : Around} {k : Nat} (hr : Room k A) : A.units + 64 < cLine := hr.units
local macro_rules | `(tactic| fail "h0") => `(tactic| with_reducible refine st_par ?_)
local macro_rules | `(tactic| fail "h0") => `(tactic| with_reducible refine st_dget ?_)
theorem lit0 : ("" : Str) = ⟨([] : List Nat).toArray⟩ := by decide +kernel
theorem lit1 : ("+" : Str) = ⟨[43].toArray⟩ := by decide +kernel
theorem lit2 : ("-" : Str) = ⟨[45].toArray⟩ := by decide +kernel
theorem lit3 : ("." : Str) = ⟨[46].toArray⟩ := by decide +kernel
theorem lit4 : ("x" : Str) = ⟨[120].toArray⟩ := by decide +kernel
theorem lit5 : ("y" : Str) = ⟨[121].toArray⟩ := by decide +kernel
theorem lit6 : ("z" : Str) = ⟨[122].toArray⟩ := by decide +kernel
theorem lit7 : (" " : Str) = ⟨[32].toArray⟩ := by decide +kernel
theorem lit8 : ("w" : Str) = ⟨[119].toArray⟩ := by decide +kernel
theorem lit9 : ("0" : Str) = ⟨[48].toArray⟩ := by decide +kernel
theorem lit10 : ("*" : Str) = ⟨[42].toArray⟩ := by decide +kernel
theorem lit11 : ("\n" : Str) = ⟨[10].toArray⟩ := by decide +kernel
theorem lit12 : ("+-" : Str) = ⟨[43, 45].toArray⟩ := by decide +kernel
theorem lit13 : (".xyz" : Str) = ⟨[46, 120, 121, 122].toArray⟩ := by decide +kernel
theorem lit14 : (".xzy" : Str) = ⟨[46, 120, 122, 121].toArray⟩ := by decide +kernel
theorem lit15 : ("-y" : Str) = ⟨[45, 121].toArray⟩ := by decide +kernel
local macro_rules | `(tactic| fail "lit") => `(tactic| simp only [lit0, lit1, lit2, lit3, lit4, lit5, lit6, lit7, lit8, lit9, lit10, lit11, lit12, lit13, lit14, lit15])
local macro_rules | `(tactic| fail "ln") => `(tactic| first | omega | decide | (with_reducible assumption) | (simp only [cutN, List.length_append, List.length_take, List.length_drop, List.length_cons, List.length_nil]; omega))
local macro_rules | `(tactic| fail "h0") => `(tactic| ((with_reducible refine st_shr1 ?c1 ?h1); (case c1 => omega)))
local macro_rules | `(tactic| fail "h2") => `(tactic| first | ((with_reducible refine st_addS ?c1 ?h1); (case c1 => fail "ln")) | with_reducible refine st_inS ?_ | with_reducible refine st_notInS ?_ | ((with_reducible refine st_slS ?c1 ?h1); (case c1 => fail "ln")) | ((with_reducible refine st_lenX ?c1 ?h1); (case c1 => fail "ln")) | with_reducible refine st_findS ?_ | ((with_reducible refine st_upperS ?c1 ?c2 ?h1); (case c1 => with_reducible assumption); (case c2 => omega); intro _ _) | ((with_reducible refine st_mulS ?c1 ?c2 ?h1); (case c1 => omega); (case c2 => omega); intro _ _) | ((with_reducible refine st_lstX ?c1 ?h1); (case c1 => fail "ln")) | ((with_reducible refine' st_ixS ?c1 ?e1 ?h1); (case c1 => fail "ln"); (case e1 => first | exact at_zero _ _ | (with_reducible assumption) | exact rfl)))
def top (i : Nat) : Stmt := PySem.Challenge.pw_twinwires_k83_rows_and_wholes_listed.main.body.getD i (.Pass ⟨0, 0, 0, 0⟩)
abbrev s_bit_at : Stmt := top 1
theorem sc_bit_at : FnScope ["number", "k"] ["number", "k"] (defScope s_bit_at) := ⟨rfl, rfl, rfl, by decide +kernel, rfl, by decide +kernel, by decide +kernel⟩
abbrev s_sign_at : Stmt := top 8
theorem sc_sign_at : FnScope ["row", "k"] ["row", "k"] (defScope s_sign_at) := ⟨rfl, rfl, rfl, by decide +kernel, rfl, by decide +kernel, by decide +kernel⟩
abbrev s_letters_of : Stmt := top 7
theorem sc_letters_of : FnScope ["row", "n", "minus"] ["row", "n"] (defScope s_letters_of) := ⟨rfl, rfl, rfl, by decide +kernel, rfl, by decide +kernel, by decide +kernel⟩
abbrev s_show_rows : Stmt := top 10
theorem sc_show_rows : FnScope ["rows", "n"] ["rows", "n"] (defScope s_show_rows) := ⟨rfl, rfl, rfl, by decide +kernel, rfl, by decide +kernel, by decide +kernel⟩
abbrev s__law_cell_at : Stmt := top 14
theorem sc__law_cell_at : FnScope ["_law_script", "_law_k"] ["_law_script", "_law_k"] (defScope s__law_cell_at) := ⟨rfl, rfl, rfl, by decide +kernel, rfl, by decide +kernel, by decide +kernel⟩
abbrev s__law_lines : Stmt := top 19
theorem sc__law_lines : FnScope ["_law_lines_here", "_law_text", "_law_k", "_law_line"] ["_law_lines_here"] (defScope s__law_lines) := ⟨rfl, rfl, rfl, by decide +kernel, rfl, by decide +kernel, by decide +kernel⟩
abbrev s__law_mixed : Stmt := top 15
theorem sc__law_mixed : FnScope ["_law_draw", "_law_k", "_law_number_here"] ["_law_draw", "_law_k"] (defScope s__law_mixed) := ⟨rfl, rfl, rfl, by decide +kernel, rfl, by decide +kernel, by decide +kernel⟩
abbrev s__law_number : Stmt := top 21
theorem sc__law_number : FnScope ["_law_draw", "_law_k", "_law_number_here"] ["_law_draw", "_law_k"] (defScope s__law_number) := ⟨rfl, rfl, rfl, by decide +kernel, rfl, by decide +kernel, by decide +kernel⟩
abbrev s_show_amount : Stmt := top 12
theorem sc_show_amount : FnScope ["b", "pair", "n", "figures"] ["b", "pair", "n"] (defScope s_show_amount) := ⟨rfl, rfl, rfl, by decide +kernel, rfl, by decide +kernel, by decide +kernel⟩
abbrev s_show_whole : Stmt := top 11
theorem sc_show_whole : FnScope ["whole", "n"] ["whole", "n"] (defScope s_show_whole) := ⟨rfl, rfl, rfl, by decide +kernel, rfl, by decide +kernel, by decide +kernel⟩
abbrev s__law_bits : Stmt := top 16
theorem sc__law_bits : FnScope ["_law_draw", "_law_k", "_law_n", "_law_number_here"] ["_law_draw", "_law_k", "_law_n"] (defScope s__law_bits) := ⟨rfl, rfl, rfl, by decide +kernel, rfl, by decide +kernel, by decide +kernel⟩
abbrev s__law_signs : Stmt := top 17
theorem sc__law_signs : FnScope ["_law_draw", "_law_n", "_law_xs", "_law_zs", "_law_way", "_law_bit", "_law_other"] ["_law_draw", "_law_n"] (defScope s__law_signs) := ⟨rfl, rfl, rfl, by decide +kernel, rfl, by decide +kernel, by decide +kernel⟩
abbrev s__law_whole_lines : Stmt := top 20
theorem sc__law_whole_lines : FnScope ["_law_whole", "_law_n", "_law_lines_here", "_law_here", "_law_figures", "_law_k", "_law_re", "_law_im"] ["_law_whole", "_law_n"] (defScope s__law_whole_lines) := ⟨rfl, rfl, rfl, by decide +kernel, rfl, by decide +kernel, by decide +kernel⟩
abbrev s__law_letters : Stmt := top 18
theorem sc__law_letters : FnScope ["_law_row", "_law_n", "_law_text", "_law_k"] ["_law_row", "_law_n"] (defScope s__law_letters) := ⟨rfl, rfl, rfl, by decide +kernel, rfl, by decide +kernel, by decide +kernel⟩
abbrev s_law : Stmt := top 22
theorem sc_law : FnScope ["_law_script", "_law_n", "_law_rows", "_law_handed", "_law_few", "_law_whole", "_law_draw", "_law_number_here", "_law_kept"] ["_law_script"] (defScope s_law) := ⟨rfl, rfl, rfl, by decide +kernel, rfl, by decide +kernel, by decide +kernel⟩
def sp_sign_at (K : PySem.W.Frag) : Sp := fun vs H Q _ => ∃ (a : Addr) (k : Nat) (r : Row), vs = [.ref a, .int k] ∧ SqT K H a r.V ∧ Q (T [sg (r.x.testBit k) (r.z.testBit k)]) H
def sp_letters_of (K : PySem.W.Frag) : Sp := fun vs H Q _ => ∃ (a : Addr) (n : Nat) (r : Row), vs = [.ref a, .int n] ∧ SqT K H a r.V ∧ n ≤ 40 ∧ ∀ H', Same H H' → Q (T (word r n)) H'
def sp__law_cell_at (K : PySem.W.Frag) : Sp := fun vs H Q _ => ∃ (a : Addr) (k : Nat) (ns : List Int), vs = [.ref a, .int k] ∧ SqL K H a (ns.map V.int) ∧ ∀ c : Int, Q (.int c) H
def sp__law_mixed (K : PySem.W.Frag) : Sp := fun vs H Q _ => ∃ (c : Int) (k : Nat), vs = [.int c, .int k] ∧ k ≤ 100 ∧ ∀ m : Nat, m < 2147483629 → Q (.int m) H
def sp__law_bits (K : PySem.W.Frag) : Sp := fun vs H Q _ => ∃ (c : Int) (k n : Nat), vs = [.int c, .int k, .int n] ∧ k ≤ 90 ∧ n ≤ 40 ∧ ∀ m : Nat, m < 2 ^ n → Q (.int m) H
def sp__law_signs (K : PySem.W.Frag) : Sp := fun vs H Q _ => ∃ (c : Int) (n : Nat), vs = [.int c, .int n] ∧ 0 < n ∧ n ≤ 40 ∧ ∀ p H' (x z : Nat), Same H H' → H' p = some (.tup [.int x, .int z]) → Q (.ref p) H'
def sp__law_letters (K : PySem.W.Frag) : Sp := sp_letters_of K
def sp_show_rows (K : PySem.W.Frag) : Sp := fun vs H Q _ => ∃ (l : Addr) (n : Nat) (as : List Addr) (rows : List Row), vs = [.ref l, .int n] ∧ H l = some (.lst (as.map V.ref)) ∧ Paired (fun a (r : Row) => SqT K H a (Row.V r)) as rows ∧ as.length ≤ 20 ∧ n ≤ 40 ∧ ∀ H', Same H H' → Q (T (inter [10] (rows.map fun r => word r n))) H'
def sp_show_amount (K : PySem.W.Frag) : Sp := fun vs H Q _ => ∃ (b n : Nat) (a : Addr) (p : Int × Int), vs = [.int b, .ref a, .int n] ∧ SqT K H a [.int p.1, .int p.2] ∧ n ≤ 10 ∧ p.1.natAbs < 10 ^ 31 ∧ p.2.natAbs < 10 ^ 31 ∧ ∀ H', Same H H' → Q (T (amount b n p)) H'
def sp_show_whole (K : PySem.W.Frag) : Sp := fun vs H Q _ => ∃ (a : Addr) (n : Nat) (ws : Wh), vs = [.ref a, .int n] ∧ WhAt K H a ws ∧ Wb (10 ^ 31) ws ∧ ws.length ≤ 13 ∧ n ≤ 6 ∧ (∀ b ∈ ws.map (·.1), b < 2 ^ n) ∧ ∀ H', Same H H' → Q (T (inter [10] ((ksrt ws (2 ^ n)).map fun b => amount b n (wv ws b)))) H'
def sp__law_lines (K : PySem.W.Frag) : Sp := fun vs H Q _ => ∃ (l : Addr) (ls : List (List Nat)) (B : Nat), vs = [.ref l] ∧ H l = some (.lst (ls.map T)) ∧ (∀ x ∈ ls, x.length ≤ B) ∧ ls.length * (B + 1) ≤ 960 ∧ ls.length ≤ 100 ∧ ∀ H', Same H H' → Q (T (inter [10] ls)) H'
def sp__law_whole_lines (K : PySem.W.Frag) : Sp := fun vs H Q _ => ∃ (a : Addr) (n : Nat) (ws : Wh), vs = [.ref a, .int n] ∧ WhAt K H a ws ∧ Wb (10 ^ 31) ws ∧ ws.length ≤ 13 ∧ n ≤ 6 ∧ ∀ l H', Same H H' → H' l = some (.lst (((ksrt ws (2 ^ n)).map fun b => amount b n (wv ws b)).map T)) → Q (.ref l) H'
def sp__law_number (K : PySem.W.Frag) : Sp := fun vs H Q _ => ∃ (c : Int) (k : Nat), vs = [.int c, .int k] ∧ k ≤ 100 ∧ ∀ (v : Int) H', Same H H' → v.natAbs < 10 ^ 31 → Q (.int v) H'
def sp_law (K : PySem.W.Frag) : Sp := fun vs H Q _ => ∃ (a : Addr) (ns : List Int), vs = [.ref a] ∧ SqL K H a (ns.map V.int) ∧ ns.length ≤ 63 ∧ ∀ H', Q (.bl true) H'
section
variable {P : Program} {w : World} {K : PySem.W.Frag} {mg : Str → Option Value} {base : Heap}
theorem ok_bit_at {f : Addr} {fd : FuncData} (F : Fun K "bit_at" "bit_at" s_bit_at f fd)  : FnOk P w K mg base CX0 1 f fd ["number", "k"] (sp_bit_at K) := by
  refine F.ok sc_bit_at (fun vs H Q E h => ?_) (fun cdv A outer s H vs Q E hr h => ?_)
  · obtain ⟨_, _, rfl, _⟩ := h
    rfl
  obtain ⟨n, k, rfl, q⟩ := h
  refine ⟨_, (pss_one (ps_ret (pe_op (op_and) (pe_op (op_shr) (pv 0) (pv 1)) pe_int))), ?_⟩
  fail "go"
  exact q
theorem ok_sign_at {f : Addr} {fd : FuncData} (F : Fun K "sign_at" "sign_at" s_sign_at f fd) (g_SIGNS : GC mg "SIGNS" (.str ".xzy")) (c_bit_at : Cal P w K mg base CX0 1 "bit_at" ["number", "k"] (sp_bit_at K)) (g_XS : GC mg "XS" (.int 1)) (g_ZS : GC mg "ZS" (.int 2)) : FnOk P w K mg base CX0 2 f fd ["row", "k"] (sp_sign_at K) := by
  refine F.ok sc_sign_at (fun vs H Q E h => ?_) (fun cdv A outer s H vs Q E hr h => ?_)
  · obtain ⟨_, _, _, rfl, _⟩ := h
    rfl
  obtain ⟨a, k, r, rfl, ha, q⟩ := h
  refine ⟨_, (pss_one (ps_ret (pe_ix (ix_str) (pe_gc g_SIGNS) (pe_op (op_add) (pe_fn c_bit_at hr pass0 (pa_cons (pe_ix (ix_tup) (pv 0) (pe_gc g_XS) (fun _ _ => rfl)) (pa_cons (pv 1) pa_nil))) (pe_op (op_mul) pe_int (pe_fn c_bit_at hr pass0 (pa_cons (pe_ix (ix_tup) (pv 0) (pe_gc g_ZS) (fun _ _ => rfl)) (pa_cons (pv 1) pa_nil))))) (fun _ _ => rfl)))), ?_⟩
  fail "st"
  fail "lit"
  unfold Row.V at ha
  fail "go"
  refine ⟨r.x, k, rfl, ?_⟩
  fail "go"
  refine ⟨r.z, k, rfl, ?_⟩
  fail "go"
  refine st_ixS (c := sg _ _) (by decide) (at_sg _ _) ?_
  exact q
theorem ok_letters_of {f : Addr} {fd : FuncData} (F : Fun K "letters_of" "letters_of" s_letters_of f fd) (g_MINUS : GC mg "MINUS" (.int 0)) (c_sign_at : Cal P w K mg base CX0 2 "sign_at" ["row", "k"] (sp_sign_at K)) (b_range : mg "range" = none) : FnOk P w K mg base CX0 3 f fd ["row", "n"] (sp_letters_of K) := by
  refine F.ok sc_letters_of (fun vs H Q E h => ?_) (fun cdv A outer s H vs Q E hr h => ?_)
  · obtain ⟨_, _, _, rfl, _⟩ := h
    rfl
  obtain ⟨a, n, r, rfl, ha, hn, q⟩ := h
  refine ⟨_, (pss_cons (ps_set (i := 2) sc_letters_of.nd rfl (Or.inl rfl) (pe_ifExp (pt_cmpR (op_eq) (pe_ix (ix_tup) (pv 0) (pe_gc g_MINUS) (fun _ _ => rfl)) pe_int (nomark _)) pe_str pe_str))
      (pss_one (ps_ret (pe_op (op_addS) (pv 2) (pe_bm PySem.F.plainAttrs_str PySem.F.slot_str_join PySem.F.type_str_join mt_join pe_str (pa_cons (pe_comp (sc := defScope s_letters_of) rfl ⟨rfl, by decide +kernel, rfl, by decide +kernel, by decide +kernel, by decide +kernel, by decide +kernel⟩ (by show ("k" : Str) ∉ (["row", "n", "minus"] : List Str); decide +kernel) (by show (".0" : Str) ∉ (["row", "n", "minus"] : List Str); decide +kernel) sc_letters_of.nd rfl (pi_range1 rfl b_range (pa_cons (pv 1) pa_nil)) (fun _ _ _ _ => pif_nil) (fun _ _ _ _ => (pe_fn c_sign_at hr pass0 (pa_cons (pv 1) (pa_cons (pv 0) pa_nil))))) pa_nil)))))), ?_⟩
  fail "st"
  fail "lit"
  have ha' := ha
  unfold Row.V at ha'
  have fin : ∀ (m : Nat) (p : Addr) H', m = minus r.m → Same H H' → Q (T ([m] ++ signs r.x r.z n)) H' := fun m p H' e hS => by rw [e]; exact q _ hS
  fail "go"
  refine iteD (fun c => ?_) (fun c => ?_)
  all_goals
    fail "go"
    refine st_comp_range (n := n) (by omega) (fun P h => ⟨_, rfl, h⟩) (fun i ys H2 => ys = (signs r.x r.z i).map (fun c => T [c]) ∧ H2 = H) ⟨rfl, rfl⟩ ?_ ?_ ?_
    · rintro i ys H2 ⟨rfl, rfl⟩
      rw [List.length_map, signs_len]
      omega
    · rintro i ys H2 hi ⟨rfl, rfl⟩
      fail "go"
      refine ⟨a, i, r, rfl, ha, ?_, rfl⟩
      rw [signs_succ, List.map_append]
      rfl
    · rintro ys H2 ⟨rfl, rfl⟩ p hp
      fail "go"
      refine st_joinS (cs := signs r.x r.z n) (SqL.of upd_same) (by rw [signs_len]; omega) ?_
      refine st_addS (by rw [signs_len]; show 1 + n ≤ 1000; omega) ?_
      refine fin _ p _ ?_ (same_new hp _)
      unfold minus
      first | rw [if_pos (by omega)] | rw [if_neg (by omega)]
theorem ok__law_cell_at {f : Addr} {fd : FuncData} (F : Fun K "_law_cell_at" "_law_cell_at" s__law_cell_at f fd) (b_len : mg "len" = none) : FnOk P w K mg base CX0 1 f fd ["_law_script", "_law_k"] (sp__law_cell_at K) := by
  refine F.ok sc__law_cell_at (fun vs H Q E h => ?_) (fun cdv A outer s H vs Q E hr h => ?_)
  · obtain ⟨_, _, _, rfl, _⟩ := h
    rfl
  obtain ⟨a, k, ns, rfl, ha, q⟩ := h
  refine ⟨_, (pss_cons (ps_if (pt_cmpR (op_lt) (pv 1) (pe_callB (call_lenQ) rfl b_len PySem.boot_len (pa_cons (pv 0) pa_nil)) (nomark _)) (pss_one (ps_ret (pe_ix (ix_list) (pv 0) (pv 1) (fun _ _ => rfl)))) pss_nil)
      (pss_one (ps_ret pe_int))), ?_⟩
  fail "st"
  fail "go"
  refine iteD (fun c => ?_) (fun c => ?_)
  · rw [List.length_map] at c
    obtain ⟨x, ex⟩ := at_i (cs := ns) (i := k) (by omega)
    fail "go"
    exact q x
  · fail "go"
    exact q 0
theorem ok__law_mixed {f : Addr} {fd : FuncData} (F : Fun K "_law_mixed" "_law_mixed" s__law_mixed f fd)  : FnOk P w K mg base CX0 1 f fd ["_law_draw", "_law_k"] (sp__law_mixed K) := by
  refine F.ok sc__law_mixed (fun vs H Q E h => ?_) (fun cdv A outer s H vs Q E hr h => ?_)
  · obtain ⟨_, _, rfl, _⟩ := h
    rfl
  obtain ⟨c, k, rfl, hk, q⟩ := h
  refine ⟨_, (pss_cons (ps_set (i := 2) sc__law_mixed.nd rfl (Or.inl rfl) (pe_op (op_mod) (pe_op (op_mulV) (pe_op (op_add) (pe_op (op_add) (pe_op (op_mod) (pv 0) pe_int) (pe_op (op_mulV) pe_int (pv 1))) pe_int) pe_int) pe_int))
      (pss_one (ps_ret (pe_op (op_mod) (pe_op (op_mulV) (pv 2) (pe_op (op_add) (pe_op (op_fdivW) (pv 2) pe_int) pe_int)) pe_int)))), ?_⟩
  fail "go"
  refine st_i ⟨by omega, by omega⟩ ?_
  fail "go"
  refine st_i ⟨by omega, by omega⟩ ?_
  fail "go"
  refine st_i ⟨by omega, by omega⟩ ?_
  fail "go"
  have key : ∀ x : Int, Q (.int (x % 2147483629)) H := fun x => by
    obtain ⟨m, e, hm⟩ := emod_nat x (n := 2147483629) (by decide)
    have e2 : x % 2147483629 = (m : Int) := e
    rw [e2]
    exact q m hm
  first
  | exact key _
  | (rename_i m em hm; exact q m hm)
theorem ok__law_bits {f : Addr} {fd : FuncData} (F : Fun K "_law_bits" "_law_bits" s__law_bits f fd) (c__law_mixed : Cal P w K mg base CX0 1 "_law_mixed" ["_law_draw", "_law_k"] (sp__law_mixed K)) : FnOk P w K mg base CX0 2 f fd ["_law_draw", "_law_k", "_law_n"] (sp__law_bits K) := by
  refine F.ok sc__law_bits (fun vs H Q E h => ?_) (fun cdv A outer s H vs Q E hr h => ?_)
  · obtain ⟨_, _, _, rfl, _⟩ := h
    rfl
  obtain ⟨c, k, n, rfl, hk, hn, q⟩ := h
  refine ⟨_, (pss_cons (ps_set (i := 3) sc__law_bits.nd rfl (Or.inl rfl) (pe_op (op_add) (pe_op (op_mulV) (pe_fn c__law_mixed hr pass0 (pa_cons (pv 0) (pa_cons (pv 1) pa_nil))) pe_int) (pe_fn c__law_mixed hr pass0 (pa_cons (pv 0) (pa_cons (pe_op (op_add) (pv 1) pe_int) pa_nil)))))
      (pss_one (ps_ret (pe_op (op_mod) (pv 3) (pe_op (op_shl) pe_int (pv 2)))))), ?_⟩
  fail "go"
  refine ⟨c, k, rfl, by omega, fun m1 h1 => ?_⟩
  fail "go"
  refine st_i ⟨by omega, by omega⟩ ?_
  fail "go"
  refine ⟨c, k + 1, by push_cast; rfl, by omega, fun m2 h2 => ?_⟩
  fail "go"
  rename_i m em hm
  exact q m hm
theorem ok__law_signs {f : Addr} {fd : FuncData} (F : Fun K "_law_signs" "_law_signs" s__law_signs f fd) (c__law_bits : Cal P w K mg base CX0 2 "_law_bits" ["_law_draw", "_law_k", "_law_n"] (sp__law_bits K)) (c__law_mixed : Cal P w K mg base CX0 1 "_law_mixed" ["_law_draw", "_law_k"] (sp__law_mixed K)) : FnOk P w K mg base CX0 3 f fd ["_law_draw", "_law_n"] (sp__law_signs K) := by
  refine F.ok sc__law_signs (fun vs H Q E h => ?_) (fun cdv A outer s H vs Q E hr h => ?_)
  · obtain ⟨_, _, rfl, _⟩ := h
    rfl
  obtain ⟨c, n, rfl, h0, hn, q⟩ := h
  refine ⟨_, (pss_cons (ps_set (i := 2) sc__law_signs.nd rfl (Or.inl rfl) (pe_fn c__law_bits hr pass0 (pa_cons (pv 0) (pa_cons pe_int (pa_cons (pv 1) pa_nil)))))
      (pss_cons (ps_set (i := 3) sc__law_signs.nd rfl (Or.inl rfl) (pe_fn c__law_bits hr pass0 (pa_cons (pv 0) (pa_cons pe_int (pa_cons (pv 1) pa_nil)))))
      (pss_cons (ps_set (i := 4) sc__law_signs.nd rfl (Or.inl rfl) (pe_op (op_mod) (pe_fn c__law_mixed hr pass0 (pa_cons (pv 0) (pa_cons pe_int pa_nil))) pe_int))
      (pss_cons (ps_if (pt_cmpR (op_lt) (pv 4) pe_int (nomark _)) (pss_cons (ps_set (i := 5) sc__law_signs.nd rfl (Or.inl rfl) (pe_op (op_shl) pe_int (pe_op (op_mod) (pe_fn c__law_mixed hr pass0 (pa_cons (pv 0) (pa_cons pe_int pa_nil))) (pv 1))))
      (pss_cons (ps_set (i := 6) sc__law_signs.nd rfl (Or.inl rfl) (pe_op (op_shl) pe_int (pe_op (op_mod) (pe_fn c__law_mixed hr pass0 (pa_cons (pv 0) (pa_cons pe_int pa_nil))) (pv 1))))
      (pss_cons (ps_set (i := 2) sc__law_signs.nd rfl (Or.inl rfl) (pe_ix (ix_list) (pe_lst (pa_cons pe_int (pa_cons (pv 5) (pa_cons (pv 5) (pa_cons (pe_op (op_or) (pv 5) (pv 6)) pa_nil))))) (pe_op (op_mod) (pe_fn c__law_mixed hr pass0 (pa_cons (pv 0) (pa_cons pe_int pa_nil))) pe_int) (fun _ _ => rfl)))
      (pss_one (ps_set (i := 3) sc__law_signs.nd rfl (Or.inl rfl) (pe_ix (ix_list) (pe_lst (pa_cons (pv 5) (pa_cons pe_int (pa_cons (pv 5) (pa_cons (pv 6) pa_nil))))) (pe_op (op_mod) (pe_fn c__law_mixed hr pass0 (pa_cons (pv 0) (pa_cons pe_int pa_nil))) pe_int) (fun _ _ => rfl))))))) pss_nil)
      (pss_cons (ps_if (PW.pt (pw_and (pt_cmpR (op_eq) (pv 2) pe_int (nomark _)) (pw_and1 (pt_cmpR (op_eq) (pv 3) pe_int (nomark _))))) (pss_one (ps_set (i := 3) sc__law_signs.nd rfl (Or.inl rfl) pe_int)) pss_nil)
      (pss_one (ps_ret (pe_tup (pa_cons (pv 2) (pa_cons (pv 3) pa_nil)))))))))), ?_⟩
  fail "st"
  fail "go"
  refine ⟨c, 10, n, rfl, by omega, hn, fun xs hxs => ?_⟩
  fail "go"
  refine ⟨c, 12, n, rfl, by omega, hn, fun zs hzs => ?_⟩
  fail "go"
  refine ⟨c, 14, rfl, by omega, fun m1 h1 => ?_⟩
  fail "go"
  refine iteD (fun _ => ?_) (fun _ => ?_)
  · fail "go"
    refine ⟨c, 15, rfl, by omega, fun m2 h2 => ?_⟩
    fail "go"
    refine ⟨c, 16, rfl, by omega, fun m3 h3 => ?_⟩
    fail "go"
    rename_i t1 et1 ht1 t2 et2 ht2 l1 kl1
    refine ⟨c, 17, rfl, by omega, fun m4 h4 => ?_⟩
    fail "go"
    obtain ⟨x1, ex1⟩ := at4m (a := .int 0) (b := .int ((2 ^ t1 : Nat) : Int)) (c := .int ((2 ^ t1 : Nat) : Int)) (d := .int ((2 ^ t1 ||| 2 ^ t2 : Nat) : Int)) m4 ⟨0, rfl⟩ ⟨_, rfl⟩ ⟨_, rfl⟩ ⟨_, rfl⟩
    fail "go"
    rename_i l2 kl2
    refine ⟨c, 18, rfl, by omega, fun m5 h5 => ?_⟩
    fail "go"
    obtain ⟨x2, ex2⟩ := at4m (a := .int ((2 ^ t1 : Nat) : Int)) (b := .int 0) (c := .int ((2 ^ t1 : Nat) : Int)) (d := .int ((2 ^ t2 : Nat) : Int)) m5 ⟨_, rfl⟩ ⟨0, rfl⟩ ⟨_, rfl⟩ ⟨_, rfl⟩
    fail "go"
    refine iteD (fun _ => ?_) (fun _ => ?_)
    · fail "go"
      refine iteD (fun _ => ?_) (fun _ => ?_)
      · fail "go"
        rename_i p hp
        exact q p _ x1 1 (by fail "sm") upd_same
      · fail "go"
        rename_i p hp
        exact q p _ x1 x2 (by fail "sm") upd_same
    · fail "go"
      rename_i p hp
      exact q p _ x1 x2 (by fail "sm") upd_same
  · have S0 := Same.refl H
    fail "go"
    refine iteD (fun _ => ?_) (fun _ => ?_)
    · fail "go"
      refine iteD (fun _ => ?_) (fun _ => ?_)
      · fail "go"
        rename_i p hp
        exact q p _ xs 1 (S0.trans (same_new hp _)) upd_same
      · fail "go"
        rename_i p hp
        exact q p _ xs zs (S0.trans (same_new hp _)) upd_same
    · fail "go"
      rename_i p hp
      exact q p _ xs zs (S0.trans (same_new hp _)) upd_same
theorem ok__law_letters {f : Addr} {fd : FuncData} (F : Fun K "_law_letters" "_law_letters" s__law_letters f fd) (b_range : mg "range" = none) : FnOk P w K mg base CX0 1 f fd ["_law_row", "_law_n"] (sp__law_letters K) := by
  refine F.ok sc__law_letters (fun vs H Q E h => ?_) (fun cdv A outer s H vs Q E hr h => ?_)
  · obtain ⟨_, _, _, rfl, _⟩ := h
    rfl
  obtain ⟨a, n, r, rfl, ha, hn, q⟩ := h
  refine ⟨_, (pss_cons (ps_set (i := 2) sc__law_letters.nd rfl (Or.inl rfl) pe_str)
      (pss_cons (ps_if (pt_cmpR (op_eq) (pe_ix (ix_tup) (pv 0) pe_int (fun _ _ => rfl)) pe_int (nomark _)) (pss_one (ps_set (i := 2) sc__law_letters.nd rfl (Or.inl rfl) pe_str)) pss_nil)
      (pss_cons (ps_for PassesOwn.never rfl (pi_range1 rfl b_range (pa_cons (pv 1) pa_nil)) (pg_name (i := 3) sc__law_letters.nd rfl (Or.inl rfl)) (pss_one (ps_set (i := 2) sc__law_letters.nd rfl (Or.inl rfl) (pe_op (op_addS) (pv 2) (pe_ix (ix_list) (pe_ix (ix_list) (pe_lst (pa_cons (pe_lst (pa_cons pe_str (pa_cons pe_str pa_nil))) (pa_cons (pe_lst (pa_cons pe_str (pa_cons pe_str pa_nil))) pa_nil))) (pe_op (op_and) (pe_op (op_shr) (pe_ix (ix_tup) (pv 0) pe_int (fun _ _ => rfl)) (pv 3)) pe_int) (fun _ _ => rfl)) (pe_op (op_and) (pe_op (op_shr) (pe_ix (ix_tup) (pv 0) pe_int (fun _ _ => rfl)) (pv 3)) pe_int) (fun _ _ => rfl))))))
      (pss_one (ps_ret (pv 2)))))), ?_⟩
  fail "st"
  fail "lit"
  unfold Row.V at ha
  fail "go"
  refine iteD (fun c => ?_) (fun c => ?_)
  all_goals
    have hm : minus r.m = if (r.m : Int) = 1 then 45 else 43 := by
      unfold minus
      by_cases e : r.m = 1
      · rw [if_pos e, if_pos (by omega)]
      · rw [if_neg e, if_neg (by omega)]
    first | rw [if_pos c] at hm | rw [if_neg c] at hm
    fail "go"
    refine st_for_range (n := n) (by omega) (fun P h => ⟨_, rfl, h⟩) (fun i σ H' => ∃ k, σ = [some (.ref a), some (.int n), some (T (minus r.m :: signs r.x r.z i)), k] ∧ Same H H') ⟨_, by rw [hm]; rfl, Same.refl _⟩ ?_ ?_
    · rintro i σ H' hi ⟨k, rfl, hS⟩
      have hb : SqT K H' a [.int (r.m : Nat), .int (r.x : Nat), .int (r.z : Nat)] := hS.tup ha
      have hsl := signs_len r.x r.z i
      have hss := signs_succ r.x r.z i
      fail "go"
      cases hx : r.x.testBit i
      all_goals
        fail "go"
        cases hz : r.z.testBit i
        all_goals
          fail "go"
          rw [hx, hz] at hss
          refine ⟨_, by rw [hss]; rfl, ?_⟩
          fail "sm"
    · rintro σ H' ⟨k, rfl, hS⟩
      fail "go"
      exact q _ hS
theorem ok_show_rows {f : Addr} {fd : FuncData} (F : Fun K "show_rows" "show_rows" s_show_rows f fd) (c_letters_of : Cal P w K mg base CX0 3 "letters_of" ["row", "n"] (sp_letters_of K)) : FnOk P w K mg base CX0 4 f fd ["rows", "n"] (sp_show_rows K) := by
  refine F.ok sc_show_rows (fun vs H Q E h => ?_) (fun cdv A outer s H vs Q E hr h => ?_)
  · obtain ⟨_, _, _, _, rfl, _⟩ := h
    rfl
  obtain ⟨l, n, as, rows, rfl, hl, hpr, hal, hn, q⟩ := h
  refine ⟨_, (pss_one (ps_ret (pe_bm PySem.F.plainAttrs_str PySem.F.slot_str_join PySem.F.type_str_join mt_joinG pe_str (pa_cons (pe_comp (sc := defScope s_show_rows) rfl ⟨rfl, by decide +kernel, rfl, by decide +kernel, by decide +kernel, by decide +kernel, by decide +kernel⟩ (by show ("row" : Str) ∉ (["rows", "n"] : List Str); decide +kernel) (by show (".0" : Str) ∉ (["rows", "n"] : List Str); decide +kernel) sc_show_rows.nd rfl (pi_list (pv 0)) (fun _ _ _ _ => pif_nil) (fun _ _ _ _ => (pe_fn c_letters_of hr pass0 (pa_cons (pv 0) (pa_cons (pv 2) pa_nil))))) pa_nil)))), ?_⟩
  fail "st"
  fail "lit"
  have hlen := pr_len hpr
  fail "go"
  refine st_comp_lst (fun P h => ⟨_, rfl, h⟩) (SqL.of hl) (fun i ys H' => Same H H' ∧ ys = ((rows.take i).map fun r => word r n).map T) (by rw [List.length_map]; omega) ⟨Same.refl _, rfl⟩ ?_ ?_ ?_ ?_
  · rintro i ys H' ⟨_, rfl⟩
    rw [List.length_map, List.length_map, List.length_take]
    omega
  · rintro i ys H' ⟨s, _⟩
    exact SqL.of (s _ _ hl)
  · rintro i x ys H' hx ⟨s, rfl⟩
    obtain ⟨a, rfl, ha⟩ := ref_at hx
    obtain ⟨r, hr, sq⟩ := pr_get hpr ha
    fail "go"
    refine ⟨a, n, r, rfl, s.tup sq, hn, fun H2 s2 => ?_⟩
    refine ⟨s.trans s2, ?_⟩
    rw [take_succV hr, List.map_append, List.map_append]
    rfl
  · rintro ys H' ⟨s, rfl⟩ p hp
    rw [List.length_map, hlen, List.take_length]
    fail "go"
    refine st_joinG (SqL.of upd_same) (by decide) (by rw [List.length_map]; omega) (fun x hx => ?_) ?_
    · obtain ⟨r, _, rfl⟩ := List.mem_map.mp hx
      rw [word_len]
      omega
    · exact q _ (s.trans (same_new hp _))
theorem ok_show_amount {f : Addr} {fd : FuncData} (F : Fun K "show_amount" "show_amount" s_show_amount f fd) (b_str : mg "str" = none) (c_bit_at : Cal P w K mg base CX0 1 "bit_at" ["number", "k"] (sp_bit_at K)) (b_range : mg "range" = none) : FnOk P w K mg base CX0 2 f fd ["b", "pair", "n"] (sp_show_amount K) := by
  refine F.ok sc_show_amount (fun vs H Q E h => ?_) (fun cdv A outer s H vs Q E hr h => ?_)
  · obtain ⟨_, _, _, _, rfl, _⟩ := h
    rfl
  obtain ⟨b, n, a, p, rfl, ha, hn, h1, h2, q⟩ := h
  refine ⟨_, (pss_cons (ps_set (i := 3) sc_show_amount.nd rfl (Or.inl rfl) (pe_bm PySem.F.plainAttrs_str PySem.F.slot_str_join PySem.F.type_str_join mt_join pe_str (pa_cons (pe_comp (sc := defScope s_show_amount) rfl ⟨rfl, by decide +kernel, rfl, by decide +kernel, by decide +kernel, by decide +kernel, by decide +kernel⟩ (by show ("k" : Str) ∉ (["b", "pair", "n", "figures"] : List Str); decide +kernel) (by show (".0" : Str) ∉ (["b", "pair", "n", "figures"] : List Str); decide +kernel) sc_show_amount.nd rfl (pi_range3 rfl b_range (pa_cons (pe_op (op_sub) (pv 2) pe_int) (pa_cons (pe_un un_neg pe_int) (pa_cons (pe_un un_neg pe_int) pa_nil)))) (fun _ _ _ _ => pif_nil) (fun _ _ _ _ => (pe_callTy (call_strQ) rfl b_str boot_str (pa_cons (pe_fn c_bit_at hr pass0 (pa_cons (pv 1) (pa_cons (pv 0) pa_nil))) pa_nil)))) pa_nil)))
      (pss_one (ps_ret (pe_bm PySem.F.plainAttrs_str PySem.F.slot_str_join PySem.F.type_str_join mt_joinG pe_str (pa_cons (pe_lst (pa_cons (pv 3) (pa_cons (pe_callTy (call_strQ) rfl b_str boot_str (pa_cons (pe_ix (ix_tup) (pv 1) pe_int (fun _ _ => rfl)) pa_nil)) (pa_cons (pe_callTy (call_strQ) rfl b_str boot_str (pa_cons (pe_ix (ix_tup) (pv 1) pe_int (fun _ _ => rfl)) pa_nil)) pa_nil)))) pa_nil))))), ?_⟩
  fail "st"
  fail "lit"
  fail "go"
  refine st_comp_dn (n := n) (by omega) (fun P h => ?_) (fun i ys H' => H' = H ∧ ys = ((figs b n).take i).map fun c => T [c]) ⟨rfl, rfl⟩ ?_ ?_ ?_
  · fail "go"
    exact h
  · rintro i ys H' ⟨_, rfl⟩
    rw [List.length_map, List.length_take]
    omega
  · rintro i ys H' hi ⟨rfl, rfl⟩
    have e1 : (n : Int) - 1 - (i : Int) = ((n - 1 - i : Nat) : Int) := by omega
    rw [e1]
    fail "go"
    refine ⟨b, n - 1 - i, rfl, ?_⟩
    fail "go"
    refine ⟨_, rfl, bit_log _, ?_⟩
    rw [dec_T, dec_bit]
    refine ⟨rfl, ?_⟩
    have hget : (figs b n)[i]? = some (dg (b.testBit (n - 1 - i))) := by simp [figs, hi]
    rw [take_succV hget, List.map_append]
    rfl
  · rintro ys H' ⟨rfl, rfl⟩ p1 hp1
    have hfl : (figs b n).take n = figs b n := List.take_of_length_le (by rw [figs_len]; exact Nat.le_refl _)
    rw [hfl]
    have ha1 := (same_new hp1 (.lst ((figs b n).map fun c => T [c]))).tup ha
    fail "go"
    show rJoin K (T []) _ _ _
    refine st_joinS (cs := figs b n) (SqL.of upd_same) (by rw [figs_len]; omega) ?_
    fail "go"
    refine ⟨_, rfl, log_small h1, ?_⟩
    rw [dec_T]
    fail "go"
    refine ⟨_, rfl, log_small h2, ?_⟩
    rw [dec_T]
    fail "go"
    rename_i l2 kl2
    have b1 := dec_len (k := 31) (by decide) h1
    have b2 := dec_len (k := 31) (by decide) h2
    refine st_joinG (z := [32]) (ls := [figs b n, dec p.1, dec p.2]) (SqL.of upd_same) (by decide) (by simp) (fun x hx => ?_) ?_
    · simp only [List.mem_cons, List.not_mem_nil, or_false] at hx
      rcases hx with rfl | rfl | rfl
      · rw [figs_len]; omega
      · omega
      · omega
    · have e : inter [32] [figs b n, dec p.1, dec p.2] = amount b n p := by
        unfold amount inter inter
        simp only [List.append_assoc]
        rfl
      rw [e]
      exact q _ ((same_new hp1 _).trans (same_new kl2 _))
theorem ok_show_whole {f : Addr} {fd : FuncData} (F : Fun K "show_whole" "show_whole" s_show_whole f fd) (c_show_amount : Cal P w K mg base CX0 2 "show_amount" ["b", "pair", "n"] (sp_show_amount K)) (b_sorted : mg "sorted" = none) : FnOk P w K mg base CX0 3 f fd ["whole", "n"] (sp_show_whole K) := by
  refine F.ok sc_show_whole (fun vs H Q E h => ?_) (fun cdv A outer s H vs Q E hr h => ?_)
  · obtain ⟨_, _, _, rfl, _⟩ := h
    rfl
  obtain ⟨a, n, ws, rfl, ⟨kvs, hk, wr⟩, wb, hl, hn, hkb, q⟩ := h
  refine ⟨_, (pss_one (ps_ret (pe_bm PySem.F.plainAttrs_str PySem.F.slot_str_join PySem.F.type_str_join mt_joinG pe_str (pa_cons (pe_comp (sc := defScope s_show_whole) rfl ⟨rfl, by decide +kernel, rfl, by decide +kernel, by decide +kernel, by decide +kernel, by decide +kernel⟩ (by show ("b" : Str) ∉ (["whole", "n"] : List Str); decide +kernel) (by show (".0" : Str) ∉ (["whole", "n"] : List Str); decide +kernel) sc_show_whole.nd rfl (pi_list (pe_callB (call_sortedD rfl) rfl b_sorted PyProof.Rows.boot_sorted (pa_cons (pv 0) pa_nil))) (fun _ _ _ _ => pif_nil) (fun _ _ _ _ => (pe_fn c_show_amount hr pass0 (pa_cons (pv 0) (pa_cons (pe_dget (hu_of hr) (pv 1) (pv 0) (fun _ _ => rfl)) (pa_cons (pv 2) pa_nil)))))) pa_nil)))), ?_⟩
  fail "st"
  fail "lit"
  fail "go"
  refine st_cqE ?_
  fail "go"
  refine ⟨a, kvs, _, rfl, .inl hk, wr.kints, by rw [kz_len]; omega, fun p ms kp pm up => ?_⟩
  have ems := ksrt_eq wb.nd hkb pm up
  subst ems
  have hkl := ksrt_len (m := 2 ^ n) wb.nd
  have hkm : ∀ (i : Nat) c, (ksrt ws (2 ^ n))[i]? = some c → c ∈ ws.map (·.1) := fun i c e => (ksrt_mem.mp (List.mem_of_getElem? e)).2
  generalize ksrt ws (2 ^ n) = ks at hkl hkm q kp ⊢
  have n1 := same_new kp (.lst ((ks.map fun b : Nat => ((b : Nat) : Int)).map V.int))
  have f1 : (upd H p (.lst ((ks.map fun b : Nat => ((b : Nat) : Int)).map V.int))) p = some (.lst ((ks.map fun b : Nat => ((b : Nat) : Int)).map V.int)) := upd_same
  have hk1 := n1 _ _ hk
  have wr1 := wr.stay (K := K) (H' := upd H p (.lst ((ks.map fun b : Nat => ((b : Nat) : Int)).map V.int))) fun y ys s => n1.tup s
  generalize upd H p (.lst ((ks.map fun b : Nat => ((b : Nat) : Int)).map V.int)) = G at n1 f1 hk1 wr1 ⊢
  refine st_cqAt (SqL.of f1) (fun i ys H' => Same G H' ∧ ys = ((ks.take i).map fun b => amount b n (wv ws b)).map T) (by rw [List.length_map, List.length_map]; omega) ⟨Same.refl _, rfl⟩ ?_ ?_ ?_ ?_
  · rintro i ys H' ⟨_, rfl⟩
    rw [List.length_map, List.length_map, List.length_take]
    omega
  · rintro i ys H' ⟨s, _⟩
    exact SqL.of (s _ _ f1)
  · rintro i x ys H' hx ⟨s, rfl⟩
    rw [List.map_map, List.getElem?_map] at hx
    obtain ⟨c, ec, rfl⟩ : ∃ c : Nat, ks[i]? = some c ∧ x = .int ((c : Nat) : Int) := by
      cases e : ks[i]? with
      | none => rw [e] at hx; cases hx
      | some y => rw [e] at hx; exact ⟨y, rfl, (Option.some.inj hx).symm⟩
    have hc := hkm i c ec
    obtain ⟨t5, d5, s5⟩ := (wr1.stay (K := K) (H' := H') fun y ys z => s.tup z).dget (.inl (s _ _ hk1)) hc
    have ac := wb.at hc
    fail "go"
    refine ⟨a, _, rfl, d5, ?_⟩
    fail "go"
    refine ⟨c, n, t5, wv ws c, rfl, s5, by omega, ac.1, ac.2, fun H2 s2 => ⟨s.trans s2, ?_⟩⟩
    rw [take_succV ec, List.map_append, List.map_append]
    rfl
  · rintro ys H' ⟨s, rfl⟩ p1 kp1
    rw [List.length_map, List.length_map, List.take_length]
    fail "go"
    refine st_joinG (SqL.of upd_same) (by decide) (by rw [List.length_map]; omega) (fun x hx => ?_) ?_
    · obtain ⟨b, hb, rfl⟩ := List.mem_map.mp hx
      obtain ⟨i, hi, ei⟩ := List.mem_iff_getElem.mp hb
      have ac := wb.at (hkm i b (by rw [List.getElem?_eq_getElem hi, ei]))
      have := amount_len (b := b) (n := n) ac.1 ac.2
      omega
    · exact q _ ((n1.trans s).trans (same_new kp1 _))
theorem ok__law_lines {f : Addr} {fd : FuncData} (F : Fun K "_law_lines" "_law_lines" s__law_lines f fd) (b_enumerate : mg "enumerate" = none) : FnOk P w K mg base CX0 1 f fd ["_law_lines_here"] (sp__law_lines K) := by
  refine F.ok sc__law_lines (fun vs H Q E h => ?_) (fun cdv A outer s H vs Q E hr h => ?_)
  · obtain ⟨_, _, _, rfl, _⟩ := h
    rfl
  obtain ⟨l, ls, B, rfl, hl, hB, hlen, h100, q⟩ := h
  refine ⟨_, (pss_cons (ps_set (i := 1) sc__law_lines.nd rfl (Or.inl rfl) pe_str)
      (pss_cons (ps_for PassesOwn.never rfl (pi_enumL rfl b_enumerate (pa_cons (pv 0) pa_nil)) (pg_tup rfl (pgs_cons (pg_name (i := 2) sc__law_lines.nd rfl (Or.inl rfl)) (pgs_cons (pg_name (i := 3) sc__law_lines.nd rfl (Or.inl rfl)) pgs_nil))) (pss_cons (ps_if (pt_cmpR (op_gt) (pv 2) pe_int (nomark _)) (pss_one (ps_set (i := 1) sc__law_lines.nd rfl (Or.inl rfl) (pe_op (op_addS) (pv 1) pe_str))) pss_nil)
      (pss_one (ps_set (i := 1) sc__law_lines.nd rfl (Or.inl rfl) (pe_op (op_addS) (pv 1) (pv 3))))))
      (pss_one (ps_ret (pv 1))))), ?_⟩
  fail "st"
  fail "lit"
  fail "go"
  refine st_enE ?_
  fail "go"
  refine st_enAt (SqL.of hl) (fun i σ H' => ∃ u v : Option V, σ = [some (.ref l), some (T (inter [10] (ls.take i))), u, v] ∧ Same H H') ⟨none, none, rfl, Same.refl _⟩ ?_ ?_ ?_
  · rintro i σ H' _ ⟨u, v, _, s⟩
    exact SqL.of (s _ _ hl)
  · rintro i x σ H' p hx ⟨u, v, rfl, s⟩ kp
    rw [List.getElem?_map] at hx
    obtain ⟨li, ei, rfl⟩ : ∃ li : List Nat, ls[i]? = some li ∧ x = T li := by
      cases e : ls[i]? with
      | none => rw [e] at hx; cases hx
      | some y => rw [e] at hx; exact ⟨y, rfl, (Option.some.inj hx).symm⟩
    have hil : i < ls.length := (List.getElem?_eq_some_iff.mp ei).1
    have hli := hB li (List.mem_of_getElem? ei)
    have hin := inter_len [10] (B := B) (ls := ls.take i) fun x hx => hB x (List.mem_of_mem_take hx)
    have htl : (ls.take i).length = i := by rw [List.length_take]; omega
    rw [htl] at hin
    have hin2 : (inter [10] (ls.take i)).length + B + 1 ≤ 960 := by
      have h1 : (i + 1) * (B + 1) ≤ ls.length * (B + 1) := Nat.mul_le_mul_right _ hil
      rw [Nat.add_mul] at h1
      have h2 : i * (B + [10].length) = i * (B + 1) := rfl
      omega
    have n1 := same_new kp (.tup [.int (i : Int), T li])
    have sn := inter_snoc [10] (ls.take i) li
    rw [← take_succV ei] at sn
    have ft : SqT K (upd H' p (.tup [.int (i : Int), T li])) p [.int (i : Int), T li] := SqT.of upd_same
    generalize upd H' p (.tup [.int (i : Int), T li]) = G at n1 ft ⊢
    fail "go"
    refine iteD (fun c => ?_) (fun c => ?_)
    · have hne : ls.take i ≠ [] := fun z => by rw [z] at htl; simp at htl; omega
      rw [if_neg hne] at sn
      fail "go"
      exact ⟨_, _, by rw [sn]; rfl, s.trans n1⟩
    · have hem : ls.take i = [] := List.eq_nil_of_length_eq_zero (by omega)
      rw [if_pos hem] at sn
      fail "go"
      refine ⟨some (.int (i : Int)), some (T li), ?_, s.trans n1⟩
      rw [sn, hem]
      rfl
  · rintro σ H' ⟨u, v, rfl, s⟩
    rw [List.length_map, List.take_length]
    fail "go"
    exact q _ s
theorem ok__law_whole_lines {f : Addr} {fd : FuncData} (F : Fun K "_law_whole_lines" "_law_whole_lines" s__law_whole_lines f fd) (b_range : mg "range" = none) (b_str : mg "str" = none) : FnOk P w K mg base CX0 1 f fd ["_law_whole", "_law_n"] (sp__law_whole_lines K) := by
  refine F.ok sc__law_whole_lines (fun vs H Q E h => ?_) (fun cdv A outer s H vs Q E hr h => ?_)
  · obtain ⟨_, _, _, rfl, _⟩ := h
    rfl
  obtain ⟨a, n, ws, rfl, ⟨kvs, hk, wr⟩, wb, hl, hn, q⟩ := h
  refine ⟨_, (pss_cons (ps_set (i := 2) sc__law_whole_lines.nd rfl (Or.inl rfl) (pe_lst pa_nil))
      (pss_cons (ps_for PassesOwn.never rfl (pi_range1 rfl b_range (pa_cons (pe_op (op_shl) pe_int (pv 1)) pa_nil)) (pg_name (i := 3) sc__law_whole_lines.nd rfl (Or.inl rfl)) (pss_one (ps_if (pt_cmpR (op_inD (hu_of hr)) (pv 3) (pv 0) rfl) (pss_cons (ps_set (i := 4) sc__law_whole_lines.nd rfl (Or.inl rfl) pe_str)
      (pss_cons (ps_for PassesOwn.never rfl (pi_range1 rfl b_range (pa_cons (pv 1) pa_nil)) (pg_name (i := 5) sc__law_whole_lines.nd rfl (Or.inl rfl)) (pss_one (ps_set (i := 4) sc__law_whole_lines.nd rfl (Or.inl rfl) (pe_op (op_addS) (pe_callTy (call_strQ) rfl b_str boot_str (pa_cons (pe_op (op_and) (pe_op (op_shr) (pv 3) (pv 5)) pe_int) pa_nil)) (pv 4)))))
      (pss_cons (ps_asg (pe_dget (hu_of hr) (pv 0) (pv 3) (fun _ _ => rfl)) (pg_tup rfl (pgs_cons (pg_name (i := 6) sc__law_whole_lines.nd rfl (Or.inl rfl)) (pgs_cons (pg_name (i := 7) sc__law_whole_lines.nd rfl (Or.inl rfl)) pgs_nil))))
      (pss_one (ps_expr (pe_bm PySem.F.plainAttrs_list PySem.F.slot_list_append PySem.F.type_list_append mt_append (pv 2) (pa_cons (pe_fst (pfs_cons (pf_val (pv 4)) (pfs_cons pf_lit (pfs_cons (pf_val (pv 6)) (pfs_cons pf_lit (pfs_cons (pf_val (pv 7)) pfs_nil)))))) pa_nil))))))) pss_nil)))
      (pss_one (ps_ret (pv 2))))), ?_⟩
  fail "st"
  fail "lit"
  fail "go"
  rename_i l0 kl0
  have h2n : 2 ^ n ≤ 64 := Nat.pow_le_pow_right (n := 2) (by decide) hn
  refine st_for_range (n := 2 ^ n) (by omega) (fun P h => ?_) (fun i σ H' => ∃ (u0 u1 u2 u3 u4 : Option V), σ = [some (.ref a), some (.int n), some (.ref l0), u0, u1, u2, u3, u4] ∧ H' l0 = some (.lst (((ksrt ws i).map fun b => amount b n (wv ws b)).map T)) ∧ Same H H') ⟨none, none, none, none, none, rfl, upd_same, same_new kl0 _⟩ ?_ ?_
  · fail "go"
    exact h
  · rintro i σ H' hi ⟨u0, u1, u2, u3, u4, rfl, hl0, s⟩
    have hk1 := s _ _ hk
    have wr1 := wr.stay (K := K) (H' := H') fun y ys z => s.tup z
    have sc := ksrt_succ ws i
    have hkl := ksrt_len (m := i) wb.nd
    fail "go"
    refine ⟨a, _, rfl, dget_z (.inl hk1), ?_⟩
    by_cases hm : i ∈ ws.map (·.1)
    · obtain ⟨t5, d5, s5⟩ := wr1.dget (.inl hk1) hm
      obtain ⟨t6, e6, _⟩ := wr1.here hm
      rw [if_pos hm] at sc
      rw [e6, Option.isSome_some]
      have am := wb.at hm
      fail "go"
      refine st_for_range (n := n) (by omega) (fun P h => ⟨_, rfl, h⟩) (fun j σ H2 => ∃ (v1 : Option V), σ = [some (.ref a), some (.int n), some (.ref l0), some (.int (i : Nat)), some (T (figs i j)), v1, u3, u4] ∧ H2 = H') ⟨u2, rfl, rfl⟩ ?_ ?_
      · rintro j σ H2 hj ⟨v1, rfl, rfl⟩
        have hfl := figs_len i j
        fail "go"
        refine ⟨_, rfl, bit_log _, ?_⟩
        rw [dec_T, dec_bit]
        fail "go"
        exact ⟨_, by rw [figs_succ]; rfl, rfl⟩
      · rintro σ H2 ⟨v1, rfl, rfl⟩
        fail "go"
        refine ⟨a, _, rfl, d5, ?_⟩
        have b1 := dec_len (k := 31) (by decide) am.1
        have b2 := dec_len (k := 31) (by decide) am.2
        have fln := figs_len i n
        fail "go"
        refine st_fst (st_fcons (st_fval ?_))
        fail "go"
        refine .inl ⟨_, rfl, by omega, by show 0 + _ ≤ 1000; omega, ?_⟩
        refine st_fcons (st_flit ⟨by show (figs i n).length + 1 ≤ 1000; omega, ?_⟩)
        refine st_fcons (st_fval ?_)
        fail "go"
        refine .inr ⟨_, rfl, log_small am.1, by show (figs i n ++ [32]).length + _ ≤ 1000; rw [List.length_append]; show _ + 1 + _ ≤ 1000; omega, ?_⟩
        refine st_fcons (st_flit ⟨by show (figs i n ++ [32] ++ dec _).length + 1 ≤ 1000; rw [List.length_append, List.length_append]; show _ + 1 + _ + 1 ≤ 1000; omega, ?_⟩)
        refine st_fcons (st_fval ?_)
        fail "go"
        refine .inr ⟨_, rfl, log_small am.2, by show (figs i n ++ [32] ++ dec _ ++ [32]).length + _ ≤ 1000; rw [List.length_append, List.length_append, List.length_append]; show _ + 1 + _ + 1 + _ ≤ 1000; omega, ?_⟩
        refine st_fnil (by show (figs i n ++ [32] ++ dec _ ++ [32] ++ dec _).length ≤ 1000; rw [List.length_append, List.length_append, List.length_append, List.length_append]; show _ + 1 + _ + 1 + _ ≤ 1000; omega) ?_
        fail "go"
        refine ⟨_, _, _, _, _, rfl, ?_, s.updF kl0⟩
        rw [upd_same, sc, List.map_append, List.map_append]
        rfl
    · rw [if_neg hm] at sc
      have en : atZ kvs ((i : Nat) : Int) = none := by
        rcases wr1.val i with ⟨e1, _⟩ | ⟨t, p, e1, e2, e3⟩
        · exact e1
        · exfalso
          apply hm
          obtain ⟨e, he, _⟩ := Option.map_eq_some_iff.mp e3
          have := List.find?_some he
          exact List.mem_map.mpr ⟨e, List.mem_of_find?_eq_some he, of_decide_eq_true this⟩
      rw [en, Option.isSome_none]
      fail "go"
      exact ⟨_, _, _, _, _, rfl, by rw [sc]; exact hl0, s⟩
  · rintro σ H' ⟨u0, u1, u2, u3, u4, rfl, hl0, s⟩
    fail "go"
    exact q l0 H' s hl0
theorem ok__law_number {f : Addr} {fd : FuncData} (F : Fun K "_law_number" "_law_number" s__law_number f fd) (c__law_mixed : Cal P w K mg base CX0 1 "_law_mixed" ["_law_draw", "_law_k"] (sp__law_mixed K)) : FnOk P w K mg base CX0 2 f fd ["_law_draw", "_law_k"] (sp__law_number K) := by
  refine F.ok sc__law_number (fun vs H Q E h => ?_) (fun cdv A outer s H vs Q E hr h => ?_)
  · obtain ⟨_, _, rfl, _⟩ := h
    rfl
  obtain ⟨c, k, rfl, hk, q⟩ := h
  refine ⟨_, (pss_cons (ps_set (i := 2) sc__law_number.nd rfl (Or.inl rfl) (pe_fn c__law_mixed hr pass0 (pa_cons (pv 0) (pa_cons (pv 1) pa_nil))))
      (pss_one (ps_ret (pe_ix (ix_list) (pe_lst (pa_cons (pe_op (op_sub) (pe_op (op_mod) (pe_op (op_fdivW) (pv 2) pe_int) pe_int) pe_int) (pa_cons (pe_op (op_sub) (pe_op (op_mod) (pe_op (op_fdivW) (pv 0) pe_int) (pe_op (op_mulV) pe_int (pe_op (op_pow) pe_int pe_int))) (pe_op (op_pow) pe_int pe_int)) (pa_cons pe_int pa_nil)))) (pe_op (op_mod) (pv 2) pe_int) (fun _ _ => rfl))))), ?_⟩
  fail "st"
  fail "go"
  refine ⟨c, k, rfl, by omega, fun m1 h1 => ?_⟩
  fail "go"
  rename_i p hp
  have e20 : (10 : Int) ^ Int.toNat 30 = 1000000000000000000000000000000 := by decide
  have e21 : (2 : Int) * 1000000000000000000000000000000 = 2000000000000000000000000000000 := by decide
  obtain ⟨v, hv, ev⟩ := at3m (a := V.int (((m1 : Nat) : Int) / 3 % 7 - 3)) (b := V.int (c / 3 % (2 * 10 ^ Int.toNat 30) - 10 ^ Int.toNat 30)) (c := V.int 0) ((m1 : Nat) : Int)
  refine st_ixL (SqL.of upd_same) ev ?_
  rcases hv with rfl | rfl | rfl
  · exact q _ _ (same_new hp _) (by omega)
  · refine q _ _ (same_new hp _) ?_
    rw [e20, e21]
    omega
  · exact q _ _ (same_new hp _) (by decide)
theorem ok_law {f : Addr} {fd : FuncData} (F : Fun K "law" "law" s_law f fd) (b_list : mg "list" = none) (b_dict : mg "dict" = none) (c_show_rows : Cal P w K mg base CX0 4 "show_rows" ["rows", "n"] (sp_show_rows K)) (c__law_cell_at : Cal P w K mg base CX0 1 "_law_cell_at" ["_law_script", "_law_k"] (sp__law_cell_at K)) (c__law_lines : Cal P w K mg base CX0 1 "_law_lines" ["_law_lines_here"] (sp__law_lines K)) (c__law_number : Cal P w K mg base CX0 2 "_law_number" ["_law_draw", "_law_k"] (sp__law_number K)) (c_show_whole : Cal P w K mg base CX0 3 "show_whole" ["whole", "n"] (sp_show_whole K)) (c__law_signs : Cal P w K mg base CX0 3 "_law_signs" ["_law_draw", "_law_n"] (sp__law_signs K)) (c__law_bits : Cal P w K mg base CX0 2 "_law_bits" ["_law_draw", "_law_k", "_law_n"] (sp__law_bits K)) (c__law_whole_lines : Cal P w K mg base CX0 1 "_law_whole_lines" ["_law_whole", "_law_n"] (sp__law_whole_lines K)) (c__law_letters : Cal P w K mg base CX0 1 "_law_letters" ["_law_row", "_law_n"] (sp__law_letters K)) : FnOk P w K mg base CX0 5 f fd ["_law_script"] (sp_law K) := by
  refine F.ok sc_law (fun vs H Q E h => ?_) (fun cdv A outer s H vs Q E hr h => ?_)
  · obtain ⟨_, _, rfl, _⟩ := h
    rfl
  obtain ⟨a, ns, rfl, ha, hn, q⟩ := h
  refine ⟨_, (pss_cons (ps_set (i := 1) sc_law.nd rfl (Or.inr rfl) (pe_op (op_add) pe_int (pe_op (op_mod) (pe_fn c__law_cell_at hr pass0 (pa_cons (pv 0) (pa_cons pe_int pa_nil))) pe_int)))
      (pss_cons (ps_set (i := 2) sc_law.nd rfl (Or.inl rfl) (pe_op (op_cat) (pe_compS (sc := defScope s_law) ["_law_script", "_law_n", "_law_rows", "_law_handed", "_law_few", "_law_whole", "?6", "_law_number_here", "_law_kept"] ["_law_script", "_law_n", "_law_rows", "_law_handed", "_law_few", "_law_whole", "_law_draw", "_law_number_here", "_law_kept"] rfl rfl ⟨rfl, by decide +kernel, rfl, by decide +kernel, by decide +kernel, by decide +kernel, by decide +kernel⟩ (by show ("_law_draw" : Str) ∉ (["_law_script", "_law_n", "_law_rows", "_law_handed", "_law_few", "_law_whole", "?6", "_law_number_here", "_law_kept"] : List Str); decide +kernel) (by show (".0" : Str) ∉ (["_law_script", "_law_n", "_law_rows", "_law_handed", "_law_few", "_law_whole", "?6", "_law_number_here", "_law_kept"] : List Str); decide +kernel) (by decide +kernel) rfl (by decide +kernel) rfl (pi_list (pe_slice (sl_list) (pv 0) (po_some pe_int) (po_some pe_int))) (fun _ _ _ _ => pif_nil) (fun _ _ _ _ => (pe_op (op_catTK (K := K) rfl) (pe_tup (pa_cons (pe_op (op_mod) (pv 0) pe_int) pa_nil)) (pe_fn c__law_signs hr pass0 (pa_cons (pe_op (op_fdivW) (pv 0) pe_int) (pa_cons (pv 2) pa_nil)))))) (pe_lst (pa_cons (pe_tup (pa_cons pe_int (pa_cons pe_int (pa_cons pe_int pa_nil)))) pa_nil))))
      (pss_cons (ps_set (i := 3) sc_law.nd rfl (Or.inl rfl) (pe_callTy (call_listQ) rfl b_list boot_list (pa_cons (pv 2) pa_nil)))
      (pss_cons (ps_if (PW.pt (pw_or (pt_cmpR (op_ne) (pe_fn c_show_rows hr pass0 (pa_cons (pv 3) (pa_cons (pv 1) pa_nil))) (pe_fn c__law_lines hr pass0 (pa_cons (pe_comp (sc := defScope s_law) rfl ⟨rfl, by decide +kernel, rfl, by decide +kernel, by decide +kernel, by decide +kernel, by decide +kernel⟩ (by show ("_law_row" : Str) ∉ (["_law_script", "_law_n", "_law_rows", "_law_handed", "_law_few", "_law_whole", "_law_draw", "_law_number_here", "_law_kept"] : List Str); decide +kernel) (by show (".0" : Str) ∉ (["_law_script", "_law_n", "_law_rows", "_law_handed", "_law_few", "_law_whole", "_law_draw", "_law_number_here", "_law_kept"] : List Str); decide +kernel) sc_law.nd rfl (pi_list (pv 2)) (fun _ _ _ _ => pif_nil) (fun _ _ _ _ => (pe_fn c__law_letters hr pass0 (pa_cons (pv 0) (pa_cons (pv 2) pa_nil))))) pa_nil)) (nomark _)) (pw_or1 (pt_cmpR (op_neD (hu_of64 hr)) (pv 3) (pv 2) (nomark _))))) (pss_one (ps_ret pe_bl)) pss_nil)
      (pss_cons (ps_set (i := 4) sc_law.nd rfl (Or.inl rfl) (pe_op (op_add) pe_int (pe_op (op_mod) (pe_op (op_fdivW) (pe_fn c__law_cell_at hr pass0 (pa_cons (pv 0) (pa_cons pe_int pa_nil))) pe_int) pe_int)))
      (pss_cons (ps_set (i := 5) sc_law.nd rfl (Or.inl rfl) pe_dnew)
      (pss_cons (ps_for PassesOwn.never rfl (pi_list (pe_slice (sl_list) (pv 0) (po_some pe_int) (po_some pe_int))) (pg_name (i := 6) sc_law.nd rfl (Or.inl rfl)) (pss_cons (ps_set (i := 7) sc_law.nd rfl (Or.inl rfl) (pe_tup (pa_cons (pe_fn c__law_number hr pass0 (pa_cons (pv 6) (pa_cons pe_int pa_nil))) (pa_cons (pe_fn c__law_number hr pass0 (pa_cons (pv 6) (pa_cons pe_int pa_nil))) pa_nil))))
      (pss_one (ps_if (pt_cmpR (op_neD (hu_of64 hr)) (pv 7) (pe_tup (pa_cons pe_int (pa_cons pe_int pa_nil))) (nomark _)) (pss_one (ps_dput (hu_of hr) (pv 5) (pe_fn c__law_bits hr pass0 (pa_cons (pv 6) (pa_cons pe_int (pa_cons (pv 4) pa_nil)))) (pv 7) rfl)) pss_nil))))
      (pss_cons (ps_if (pt_cmpR (op_eqM (hu_of64 hr)) (pv 5) pe_dnew (nomark _)) (pss_one (ps_dput (hu_of hr) (pv 5) pe_int (pe_tup (pa_cons pe_int (pa_cons (pe_un un_neg pe_int) pa_nil))) rfl)) pss_nil)
      (pss_cons (ps_set (i := 8) sc_law.nd rfl (Or.inl rfl) (pe_callTy (call_dictQ) rfl b_dict boot_dict (pa_cons (pv 5) pa_nil)))
      (pss_cons (ps_if (PW.pt (pw_or (pt_cmpR (op_ne) (pe_fn c_show_whole hr pass0 (pa_cons (pv 8) (pa_cons (pv 4) pa_nil))) (pe_fn c__law_lines hr pass0 (pa_cons (pe_fn c__law_whole_lines hr pass0 (pa_cons (pv 5) (pa_cons (pv 4) pa_nil))) pa_nil)) (nomark _)) (pw_or1 (pt_cmpR (op_neM (hu_of64 hr)) (pv 8) (pv 5) (nomark _))))) (pss_one (ps_ret pe_bl)) pss_nil)
      (pss_one (ps_ret (pe_cmpR (op_eq) (pe_fn c_show_rows hr pass0 (pa_cons (pe_lst pa_nil) (pa_cons (pv 1) pa_nil))) pe_str (nomark _)))))))))))))), ?_⟩
  fail "st"
  fail "lit"
  fail "go"
  refine ⟨a, 0, ns, rfl, ha, fun c0 => ?_⟩
  fail "go"
  obtain ⟨n, en, hn0, hn40⟩ := one_mod c0 40 (by decide) (by decide)
  rw [en]
  refine st_cqE ?_
  fail "go"
  rename_i p0 kp0
  obtain ⟨ms, ems, lms⟩ := cut_intsG ns 1 11
  rw [show cutV (ns.map V.int) (some 1) (some 11) = ms.map V.int from ems]
  have n0 := same_new kp0 (.lst (ms.map V.int))
  have f0 : (upd H p0 (.lst (ms.map V.int))) p0 = some (.lst (ms.map V.int)) := upd_same
  generalize upd H p0 (.lst (ms.map V.int)) = G0 at n0 f0 ⊢
  refine st_cqAt (SqL.of f0) (fun i ys H' => ∃ (as : List Addr) (rows : List Row), Same G0 H' ∧ ys = as.map V.ref ∧ Paired (fun a (r : Row) => SqT K H' a (Row.V r)) as rows ∧ as.length = i) (by rw [List.length_map]; omega) ⟨[], [], Same.refl _, rfl, .nil, rfl⟩ ?_ ?_ ?_ ?_
  · rintro i ys H' ⟨as, rows, _, rfl, _, e⟩
    rw [List.length_map, e]
    exact Nat.le_refl _
  · rintro i ys H' ⟨as, rows, s, _⟩
    exact SqL.of (s _ _ f0)
  · rintro i x ys H' hx ⟨as, rows, s, rfl, hpr, hlen⟩
    obtain ⟨d, rfl⟩ := int_at hx
    fail "go"
    rename_i t1 kt1
    obtain ⟨m, em, hm⟩ := emod_nat d (n := 2) (by decide)
    rw [show d % 2 = ((m : Nat) : Int) from em]
    refine ⟨_, n, rfl, hn0, by omega, fun p H1 x z hS1 hp => ?_⟩
    refine st_catT (hS1.tup (SqT.of upd_same)) (SqT.of hp) (by simp) (by simp) (by show 1 + 2 ≤ 1000; omega) fun t2 kt2 => ?_
    have S2 : Same H' (upd H1 t2 (.tup ([V.int ((m : Nat) : Int)] ++ [V.int ((x : Nat) : Int), V.int ((z : Nat) : Int)]))) := ((same_new kt1 _).trans hS1).trans (same_new kt2 _)
    have f2 : SqT K (upd H1 t2 (.tup ([V.int ((m : Nat) : Int)] ++ [V.int ((x : Nat) : Int), V.int ((z : Nat) : Int)]))) t2 (Row.V ⟨m, x, z⟩) := SqT.of upd_same
    generalize upd H1 t2 (.tup ([V.int ((m : Nat) : Int)] ++ [V.int ((x : Nat) : Int), V.int ((z : Nat) : Int)])) = G at S2 f2 ⊢
    exact ⟨as ++ [t2], rows ++ [⟨m, x, z⟩], s.trans S2, by rw [List.map_append]; rfl, pr_snoc (F := fun t (r : Row) => SqT K G t (Row.V r)) f2 (pr_map (F := fun t (r : Row) => SqT K H' t (Row.V r)) (fun t r h => S2.tup h) hpr), by rw [List.length_append, hlen]; rfl⟩
  · rintro ys H1 ⟨as, rows, s, rfl, hpr, hlen⟩ p1 kp1
    rw [List.length_map] at hlen
    fail "go"
    rename_i z kz l1 kl1 l2 kl2
    have S2 : Same H1 (upd (upd (upd (upd H1 p1 (.lst (as.map V.ref))) z (.tup [.int 1, .int 0, .int 0])) l1 (.lst [.ref z])) l2 (.lst (as.map V.ref ++ [.ref z]))) := by fail "sm"
    have f2 : (upd (upd (upd (upd H1 p1 (.lst (as.map V.ref))) z (.tup [.int 1, .int 0, .int 0])) l1 (.lst [.ref z])) l2 (.lst (as.map V.ref ++ [.ref z]))) l2 = some (.lst (as.map V.ref ++ [.ref z])) := upd_same
    have fz : (upd (upd (upd (upd H1 p1 (.lst (as.map V.ref))) z (.tup [.int 1, .int 0, .int 0])) l1 (.lst [.ref z])) l2 (.lst (as.map V.ref ++ [.ref z]))) z = some (.tup [.int 1, .int 0, .int 0]) := by fail "la"
    generalize upd (upd (upd (upd H1 p1 (.lst (as.map V.ref))) z (.tup [.int 1, .int 0, .int 0])) l1 (.lst [.ref z])) l2 (.lst (as.map V.ref ++ [.ref z])) = G2 at S2 f2 fz ⊢
    have hpr2 : Paired (fun a (r : Row) => SqT K G2 a (Row.V r)) (as ++ [z]) (rows ++ [⟨1, 0, 0⟩]) := pr_snoc (F := fun t (r : Row) => SqT K G2 t (Row.V r)) (SqT.of fz) (pr_map (F := fun t (r : Row) => SqT K H1 t (Row.V r)) (fun t r h => S2.tup h) hpr)
    have f2' : G2 l2 = some (.lst ((as ++ [z]).map V.ref)) := by rw [List.map_append]; exact f2
    have hal : (as ++ [z]).length ≤ 11 := by rw [List.length_append, hlen]; show _ + 1 ≤ 11; omega
    have er : as.map V.ref ++ [V.ref z] = (as ++ [z]).map V.ref := by rw [List.map_append]; rfl
    generalize as ++ [z] = as2 at hpr2 f2' hal er ⊢
    generalize rows ++ [⟨1, 0, 0⟩] = rows2 at hpr2 ⊢
    have hrl := pr_len hpr2
    have SG2 := (n0.trans s).trans S2
    fail "go"
    refine ⟨l2, _, rfl, .inl (SqL.of f2'), fun l3 kl3 => ?_⟩
    have n3 := same_new kl3 (.lst (as2.map V.ref))
    have f3 : (upd G2 l3 (.lst (as2.map V.ref))) l3 = some (.lst (as2.map V.ref)) := upd_same
    have f23 := n3 _ _ f2'
    have hpr3 := pr_map (F := fun t (r : Row) => SqT K G2 t (Row.V r)) (G := fun t (r : Row) => SqT K (upd G2 l3 (.lst (as2.map V.ref))) t (Row.V r)) (fun t r h => n3.tup h) hpr2
    generalize upd G2 l3 (.lst (as2.map V.ref)) = G3 at n3 f3 f23 hpr3 ⊢
    fail "go"
    refine ⟨l3, n, as2, rows2, rfl, f3, hpr3, by omega, by omega, fun H4 s4 => ?_⟩
    fail "go"
    refine st_comp_lst (fun P h => ⟨_, rfl, h⟩) (SqL.of (s4 _ _ f23)) (fun i ys H' => Same H4 H' ∧ ys = ((rows2.take i).map fun r => word r n).map T) (by rw [List.length_map]; omega) ⟨Same.refl _, rfl⟩ ?_ ?_ ?_ ?_
    · rintro i ys H' ⟨_, rfl⟩
      rw [List.length_map, List.length_map, List.length_take]
      omega
    · rintro i ys H' ⟨s, _⟩
      exact SqL.of (s _ _ (s4 _ _ f23))
    · rintro i x ys H' hx ⟨s, rfl⟩
      obtain ⟨b, rfl, hb⟩ := ref_at hx
      obtain ⟨r, hr, sq⟩ := pr_get hpr3 hb
      fail "go"
      refine ⟨b, n, r, rfl, s.tup (s4.tup sq), by omega, fun H2 s2 => ?_⟩
      refine ⟨s.trans s2, ?_⟩
      rw [take_succV hr, List.map_append, List.map_append]
      rfl
    · rintro ys H5 ⟨s5, rfl⟩ p5 kp5
      rw [List.length_map, hrl, List.take_length]
      have n5 := same_new kp5 (.lst ((rows2.map fun r => word r n).map T))
      have f5 : (upd H5 p5 (.lst ((rows2.map fun r => word r n).map T))) p5 = some (.lst ((rows2.map fun r => word r n).map T)) := upd_same
      generalize upd H5 p5 (.lst ((rows2.map fun r => word r n).map T)) = G5 at n5 f5 ⊢
      fail "go"
      refine ⟨p5, _, 41, rfl, f5, fun x hx => ?_, by rw [List.length_map, ← hrl]; omega, by rw [List.length_map]; omega, fun H6 s6 => ?_⟩
      · obtain ⟨r, _, rfl⟩ := List.mem_map.mp hx
        rw [word_len]
        omega
      have S6 : Same G3 H6 := ((s4.trans s5).trans n5).trans s6
      have hpr6 := pr_map (F := fun t (r : Row) => SqT K G3 t (Row.V r)) (G := fun t (r : Row) => SqT K H6 t (Row.V r)) (fun t r h => S6.tup h) hpr3
      have ha6 := S6.seq (n3.seq (SG2.seq ha))
      fail "go"
      refine iteN (fun c => (c rfl).elim) (fun _ => ?_)
      fail "go"
      refine st_neRt (SqL.of (S6 _ _ f3)) (SqL.of (S6 _ _ f23)) hpr6 hpr6 ?_
      fail "go"
      refine ⟨a, 0, ns, rfl, ha6, fun c1 => ?_⟩
      fail "go"
      obtain ⟨fw, ef, hf0, hf6⟩ := one_mod (c1 / 40) 6 (by decide) (by decide)
      rw [ef]
      fail "go"
      rename_i d0 kd0
      have n7 := same_new kd0 (.dK [])
      have f7 : (upd H6 d0 (.dK [])) d0 = some (.dK []) := upd_same
      have ha7 := n7.seq ha6
      have kd0' : ∀ c o, H6 c = some o → c ≠ d0 := fun c o e => ne_of_none e kd0
      generalize upd H6 d0 (.dK []) = G7 at n7 f7 ha7 ⊢
      refine st_forE ?_
      fail "go"
      rename_i p8 kp8
      obtain ⟨mt, emt, lmt⟩ := cut_intsG ns 1 13
      rw [show cutV (ns.map V.int) (some 1) (some 13) = mt.map V.int from emt]
      have n8 := same_new kp8 (.lst (mt.map V.int))
      have f8 : (upd G7 p8 (.lst (mt.map V.int))) p8 = some (.lst (mt.map V.int)) := upd_same
      have f78 := n8 _ _ f7
      have h8d : p8 ≠ d0 := fun z => by rw [z, f7] at kp8; cases kp8
      generalize upd G7 p8 (.lst (mt.map V.int)) = G8 at n8 f8 f78 ⊢
      refine st_forAt (SqL.of f8) (fun i σ H' => ∃ (u v : Option V) (ws : Wh), σ = [some (.ref a), some (.int n), some (.ref l2), some (.ref l3), some (.int fw), some (.ref d0), u, v, none] ∧ But d0 G8 H' ∧ WhAt K H' d0 ws ∧ Wb (10 ^ 31) ws ∧ (∀ b ∈ ws.map (·.1), b < 2 ^ fw) ∧ ws.length ≤ i) ⟨none, none, [], rfl, fun _ _ _ e => e, ⟨[], f78, .nil⟩, ⟨by simp, fun _ z => nomatch z⟩, fun b hb => by simp at hb, Nat.le_refl _⟩ ?_ ?_ ?_
      · rintro i σ H' _ ⟨u, v, ws, _, hB, _⟩
        exact SqL.of (hB _ _ h8d f8)
      · rintro i x σ H' hx ⟨u, v, ws, rfl, hB, hW, ok, hkb, hl⟩
        obtain ⟨d, rfl⟩ := int_at hx
        have him : i < mt.length := by
          have := (List.getElem?_eq_some_iff.mp hx).1
          rw [List.length_map] at this
          exact this
        fail "go"
        refine ⟨d, 30, rfl, by omega, fun v1 H1 hS1 hv1 => ?_⟩
        fail "go"
        refine ⟨d, 31, rfl, by omega, fun v2 H2 hS2 hv2 => ?_⟩
        fail "go"
        rename_i t kt z kz
        have S2 : Same H' (upd (upd H2 t (.tup [.int v1, .int v2])) z (.tup [.int 0, .int 0])) := ((hS1.trans hS2).trans (same_new kt _)).trans (same_new kz _)
        have ft : SqT K (upd (upd H2 t (.tup [.int v1, .int v2])) z (.tup [.int 0, .int 0])) t [.int v1, .int v2] := (same_new kz _).tup (SqT.of upd_same)
        generalize upd (upd H2 t (.tup [.int v1, .int v2])) z (.tup [.int 0, .int 0]) = G at S2 ft ⊢
        have hB2 : But d0 G8 G := fun c o hc e => S2 _ _ (hB c o hc e)
        refine iteN (fun c => ?_) (fun _ => ?_)
        · fail "go"
          refine ⟨d, 20, fw, rfl, by omega, by omega, fun m hm => ?_⟩
          obtain ⟨kvs, h1, h2⟩ := hW.stay S2
          have hlen := h2.len
          refine ⟨d0, _, rfl, dput_z h1 (by omega), _, _, wput ws m (v1, v2), rfl, fun c o hc e => by rw [upd_ne hc]; exact hB2 c o hc e, ⟨_, upd_same, ?_⟩, ok.put ⟨hv1, hv2⟩, fun b hb => ?_, by have := wput_le ws m (v1, v2); omega⟩
          · have hBp : But d0 G (upd G d0 (.dK (putK kvs (.inl ((m : Nat) : Int)) (.ref t)))) := But.upd
            exact (h2.stay fun y ys s => hBp.tup h1 y ys s).put (hBp.tup h1 _ _ ft)
          · rw [wput_keys] at hb
            split at hb
            · exact hkb b hb
            · rcases List.mem_append.mp hb with z | z
              · exact hkb b z
              · rw [List.mem_singleton.mp z]
                exact hm
        · fail "go"
          exact ⟨_, _, ws, rfl, hB2, hW.stay S2, ok, hkb, by omega⟩
      · rintro σ H9 ⟨u, v, ws, rfl, hB, ⟨kvs, h1, h2⟩, ok, hkb, hl⟩
        rw [List.length_map] at hl
        fail "go"
        rename_i z kz
        have Sz : Same H9 (upd H9 z (.dK [])) := same_new kz _
        have h1' := Sz _ _ h1
        have h2' := h2.stay (K := K) (H' := upd H9 z (.dK [])) fun y ys s => Sz.tup s
        refine st_eqM (g := wd []) (.inl h1') (.inl upd_same) (h2'.dv ok.nd) (fun k x hx => nomatch hx) ?_
        generalize upd H9 z (.dK []) = G at Sz h1' h2' ⊢
        rw [Bool.xor_false]
        generalize sameD kvs [] (wd ws) (wd []) = cc
        refine ⟨cc, rfl, ?_⟩
        cases cc
        · fail "go"
          have hW9 : WhAt K G d0 ws := ⟨kvs, h1', h2'⟩
          have wl : ws.length ≤ 13 := by omega
          clear h1' h2' h1 h2 hl
          obtain ⟨kv9, hk9, wr9⟩ := id hW9
          fail "go"
          refine st_dict hk9 fun dk kdk => ?_
          have n9 := same_new kdk (.dK kv9)
          have fK : WhAt K (upd G dk (.dK kv9)) dk ws := ⟨kv9, upd_same, wr9.stay fun y ys s => n9.tup s⟩
          have hWk := hW9.stay n9
          generalize upd G dk (.dK kv9) = GK at n9 fK hWk ⊢
          fail "go"
          refine ⟨dk, fw, ws, rfl, fK, ok, wl, by omega, hkb, fun Ha sa => ?_⟩
          fail "go"
          refine ⟨d0, fw, ws, rfl, hWk.stay sa, ok, wl, by omega, fun la Hb sb hla => ?_⟩
          have kl := ksrt_len (m := 2 ^ fw) ok.nd
          fail "go"
          refine ⟨la, _, 72, rfl, hla, fun x hx => ?_, by rw [List.length_map]; omega, by rw [List.length_map]; omega, fun Hc sc => ?_⟩
          · obtain ⟨b, hb, rfl⟩ := List.mem_map.mp hx
            have ac := ok.at (ksrt_mem.mp hb).2
            have := amount_len (b := b) (n := fw) ac.1 ac.2
            omega
          have sac := (sa.trans sb).trans sc
          fail "go"
          refine iteN (fun c => (c rfl).elim) (fun _ => ?_)
          fail "go"
          refine whole_ne (fK.stay sac) (hWk.stay sac) ok.nd ?_
          fail "go"
          rename_i le kle
          refine ⟨le, n, [], [], rfl, upd_same, .nil, by decide, by omega, fun Hd sd => ?_⟩
          fail "go"
          exact q _
        · fail "go"
          rename_i t kt
          have hlen := h2'.len
          have St : Same G (upd G t (.tup [.int 0, .int (-1)])) := same_new kt _
          have ft : SqT K (upd G t (.tup [.int 0, .int (-1)])) t [.int 0, .int (-1)] := SqT.of upd_same
          have h1t := St _ _ h1'
          generalize upd G t (.tup [.int 0, .int (-1)]) = GT at St ft h1t ⊢
          refine ⟨d0, _, rfl, dput_z h1t (by omega), ?_⟩
          have hBp : But d0 GT (upd GT d0 (.dK (putK kvs (.inl (((0 : Nat) : Nat) : Int)) (.ref t)))) := But.upd
          have hW9 : WhAt K (upd GT d0 (.dK (putK kvs (.inl (((0 : Nat) : Nat) : Int)) (.ref t)))) d0 (wput ws 0 (0, -1)) := ⟨_, upd_same, ((h2'.stay fun y ys s => St.tup s).stay fun y ys s => hBp.tup h1t y ys s).put (b := 0) (p := (0, -1)) (hBp.tup h1t _ _ ft)⟩
          have ok2 : Wb (10 ^ 31) (wput ws 0 (0, -1)) := ok.put ⟨by decide, by decide⟩
          have hkb2 : ∀ b ∈ (wput ws 0 (0, -1)).map (·.1), b < 2 ^ fw := fun b hb => by
            rw [wput_keys] at hb
            split at hb
            · exact hkb b hb
            · rcases List.mem_append.mp hb with z | z
              · exact hkb b z
              · rw [List.mem_singleton.mp z]
                exact pow_pos2 _
          have wl2 : (wput ws 0 (0, -1)).length ≤ 13 := by have := wput_le ws 0 (0, -1); omega
          have eu : upd GT d0 (.dK (putK kvs (.inl (0 : Int)) (.ref t))) = upd GT d0 (.dK (putK kvs (.inl (((0 : Nat) : Nat) : Int)) (.ref t))) := rfl
          first
          | rw [eu]
          | skip
          generalize upd GT d0 (.dK (putK kvs (.inl (((0 : Nat) : Nat) : Int)) (.ref t))) = GU at hW9 ⊢
          clear h1' h2' h1 h2 hl ok hkb h1t hBp ft St
          generalize wput ws 0 (0, -1) = ws at hW9 ok2 hkb2 wl2
          have ok := ok2
          have hkb := hkb2
          have wl := wl2
          clear ok2 hkb2 wl2
          generalize GU = G at hW9 ⊢
          obtain ⟨kv9, hk9, wr9⟩ := id hW9
          fail "go"
          refine st_dict hk9 fun dk kdk => ?_
          have n9 := same_new kdk (.dK kv9)
          have fK : WhAt K (upd G dk (.dK kv9)) dk ws := ⟨kv9, upd_same, wr9.stay fun y ys s => n9.tup s⟩
          have hWk := hW9.stay n9
          generalize upd G dk (.dK kv9) = GK at n9 fK hWk ⊢
          fail "go"
          refine ⟨dk, fw, ws, rfl, fK, ok, wl, by omega, hkb, fun Ha sa => ?_⟩
          fail "go"
          refine ⟨d0, fw, ws, rfl, hWk.stay sa, ok, wl, by omega, fun la Hb sb hla => ?_⟩
          have kl := ksrt_len (m := 2 ^ fw) ok.nd
          fail "go"
          refine ⟨la, _, 72, rfl, hla, fun x hx => ?_, by rw [List.length_map]; omega, by rw [List.length_map]; omega, fun Hc sc => ?_⟩
          · obtain ⟨b, hb, rfl⟩ := List.mem_map.mp hx
            have ac := ok.at (ksrt_mem.mp hb).2
            have := amount_len (b := b) (n := fw) ac.1 ac.2
            omega
          have sac := (sa.trans sb).trans sc
          fail "go"
          refine iteN (fun c => (c rfl).elim) (fun _ => ?_)
          fail "go"
          refine whole_ne (fK.stay sac) (hWk.stay sac) ok.nd ?_
          fail "go"
          rename_i le kle
          refine ⟨le, n, [], [], rfl, upd_same, .nil, by decide, by omega, fun Hd sd => ?_⟩
          fail "go"
          exact q _
end
theorem all_mk {l : PySem.W.OpenLaw} {w : World} {K : PySem.W.Frag} {h : Heap} {mg : Str → Option Value} {fa f0 f1 f2 f3 f4 f5 f6 f7 f8 f9 f10 f11 f12 f13 f14 : Addr} {od0 an0 od1 an1 od2 an2 od3 an3 od4 an4 od5 an5 od6 an6 od7 an7 od8 an8 od9 an9 od10 an10 od11 an11 od12 an12 od13 an13 od14 an14 : Option Addr} {sl0 sl1 sl2 sl3 sl4 sl5 sl6 sl7 sl8 sl9 sl10 sl11 sl12 sl13 sl14 : Array (Option Value)} {oc0 kV0 dc0 pm0 cd0 ct0 oc1 kV1 dc1 pm1 cd1 ct1 oc2 kV2 dc2 pm2 cd2 ct2 oc3 kV3 dc3 pm3 cd3 ct3 oc4 kV4 dc4 pm4 cd4 ct4 oc5 kV5 dc5 pm5 cd5 ct5 oc6 kV6 dc6 pm6 cd6 ct6 oc7 kV7 dc7 pm7 cd7 ct7 oc8 kV8 dc8 pm8 cd8 ct8 oc9 kV9 dc9 pm9 cd9 ct9 oc10 kV10 dc10 pm10 cd10 ct10 oc11 kV11 dc11 pm11 cd11 ct11 oc12 kV12 dc12 pm12 cd12 ct12 oc13 kV13 dc13 pm13 cd13 ct13 oc14 kV14 dc14 pm14 cd14 ct14 : Value} {t_SIGNS t_XS t_ZS t_MINUS : Tok} (KX : K.In h) (G : h.Ns mainGlobals mg) (hfa : mg "law" = some (.ref fa))
    (a0 : PySem.W.nsIn K mainGlobals "bit_at" = some (some (.ref f0)))
    (l0 : K.lookup f0 = some ⟨oc0, od0, .func (PySem.W.fnOf "bit_at" "bit_at" (defArgs s_bit_at) (defBody s_bit_at) (defScope s_bit_at) .none kV0 dc0 pm0 an0 cd0 ct0), sl0⟩)
    (q0 : PySem.W.codeIn K cd0 "bit_at" = true)
    (k0 : PySem.W.keepIn K (.ref f0) = true)
    (a1 : PySem.W.nsIn K mainGlobals "sign_at" = some (some (.ref f1)))
    (l1 : K.lookup f1 = some ⟨oc1, od1, .func (PySem.W.fnOf "sign_at" "sign_at" (defArgs s_sign_at) (defBody s_sign_at) (defScope s_sign_at) .none kV1 dc1 pm1 an1 cd1 ct1), sl1⟩)
    (q1 : PySem.W.codeIn K cd1 "sign_at" = true)
    (k1 : PySem.W.keepIn K (.ref f1) = true)
    (a2 : PySem.W.nsIn K mainGlobals "letters_of" = some (some (.ref f2)))
    (l2 : K.lookup f2 = some ⟨oc2, od2, .func (PySem.W.fnOf "letters_of" "letters_of" (defArgs s_letters_of) (defBody s_letters_of) (defScope s_letters_of) .none kV2 dc2 pm2 an2 cd2 ct2), sl2⟩)
    (q2 : PySem.W.codeIn K cd2 "letters_of" = true)
    (k2 : PySem.W.keepIn K (.ref f2) = true)
    (a3 : PySem.W.nsIn K mainGlobals "show_rows" = some (some (.ref f3)))
    (l3 : K.lookup f3 = some ⟨oc3, od3, .func (PySem.W.fnOf "show_rows" "show_rows" (defArgs s_show_rows) (defBody s_show_rows) (defScope s_show_rows) .none kV3 dc3 pm3 an3 cd3 ct3), sl3⟩)
    (q3 : PySem.W.codeIn K cd3 "show_rows" = true)
    (k3 : PySem.W.keepIn K (.ref f3) = true)
    (a4 : PySem.W.nsIn K mainGlobals "_law_cell_at" = some (some (.ref f4)))
    (l4 : K.lookup f4 = some ⟨oc4, od4, .func (PySem.W.fnOf "_law_cell_at" "_law_cell_at" (defArgs s__law_cell_at) (defBody s__law_cell_at) (defScope s__law_cell_at) .none kV4 dc4 pm4 an4 cd4 ct4), sl4⟩)
    (q4 : PySem.W.codeIn K cd4 "_law_cell_at" = true)
    (k4 : PySem.W.keepIn K (.ref f4) = true)
    (a5 : PySem.W.nsIn K mainGlobals "_law_lines" = some (some (.ref f5)))
    (l5 : K.lookup f5 = some ⟨oc5, od5, .func (PySem.W.fnOf "_law_lines" "_law_lines" (defArgs s__law_lines) (defBody s__law_lines) (defScope s__law_lines) .none kV5 dc5 pm5 an5 cd5 ct5), sl5⟩)
    (q5 : PySem.W.codeIn K cd5 "_law_lines" = true)
    (k5 : PySem.W.keepIn K (.ref f5) = true)
    (a6 : PySem.W.nsIn K mainGlobals "_law_mixed" = some (some (.ref f6)))
    (l6 : K.lookup f6 = some ⟨oc6, od6, .func (PySem.W.fnOf "_law_mixed" "_law_mixed" (defArgs s__law_mixed) (defBody s__law_mixed) (defScope s__law_mixed) .none kV6 dc6 pm6 an6 cd6 ct6), sl6⟩)
    (q6 : PySem.W.codeIn K cd6 "_law_mixed" = true)
    (k6 : PySem.W.keepIn K (.ref f6) = true)
    (a7 : PySem.W.nsIn K mainGlobals "_law_number" = some (some (.ref f7)))
    (l7 : K.lookup f7 = some ⟨oc7, od7, .func (PySem.W.fnOf "_law_number" "_law_number" (defArgs s__law_number) (defBody s__law_number) (defScope s__law_number) .none kV7 dc7 pm7 an7 cd7 ct7), sl7⟩)
    (q7 : PySem.W.codeIn K cd7 "_law_number" = true)
    (k7 : PySem.W.keepIn K (.ref f7) = true)
    (a8 : PySem.W.nsIn K mainGlobals "show_amount" = some (some (.ref f8)))
    (l8 : K.lookup f8 = some ⟨oc8, od8, .func (PySem.W.fnOf "show_amount" "show_amount" (defArgs s_show_amount) (defBody s_show_amount) (defScope s_show_amount) .none kV8 dc8 pm8 an8 cd8 ct8), sl8⟩)
    (q8 : PySem.W.codeIn K cd8 "show_amount" = true)
    (k8 : PySem.W.keepIn K (.ref f8) = true)
    (a9 : PySem.W.nsIn K mainGlobals "show_whole" = some (some (.ref f9)))
    (l9 : K.lookup f9 = some ⟨oc9, od9, .func (PySem.W.fnOf "show_whole" "show_whole" (defArgs s_show_whole) (defBody s_show_whole) (defScope s_show_whole) .none kV9 dc9 pm9 an9 cd9 ct9), sl9⟩)
    (q9 : PySem.W.codeIn K cd9 "show_whole" = true)
    (k9 : PySem.W.keepIn K (.ref f9) = true)
    (a10 : PySem.W.nsIn K mainGlobals "_law_bits" = some (some (.ref f10)))
    (l10 : K.lookup f10 = some ⟨oc10, od10, .func (PySem.W.fnOf "_law_bits" "_law_bits" (defArgs s__law_bits) (defBody s__law_bits) (defScope s__law_bits) .none kV10 dc10 pm10 an10 cd10 ct10), sl10⟩)
    (q10 : PySem.W.codeIn K cd10 "_law_bits" = true)
    (k10 : PySem.W.keepIn K (.ref f10) = true)
    (a11 : PySem.W.nsIn K mainGlobals "_law_signs" = some (some (.ref f11)))
    (l11 : K.lookup f11 = some ⟨oc11, od11, .func (PySem.W.fnOf "_law_signs" "_law_signs" (defArgs s__law_signs) (defBody s__law_signs) (defScope s__law_signs) .none kV11 dc11 pm11 an11 cd11 ct11), sl11⟩)
    (q11 : PySem.W.codeIn K cd11 "_law_signs" = true)
    (k11 : PySem.W.keepIn K (.ref f11) = true)
    (a12 : PySem.W.nsIn K mainGlobals "_law_whole_lines" = some (some (.ref f12)))
    (l12 : K.lookup f12 = some ⟨oc12, od12, .func (PySem.W.fnOf "_law_whole_lines" "_law_whole_lines" (defArgs s__law_whole_lines) (defBody s__law_whole_lines) (defScope s__law_whole_lines) .none kV12 dc12 pm12 an12 cd12 ct12), sl12⟩)
    (q12 : PySem.W.codeIn K cd12 "_law_whole_lines" = true)
    (k12 : PySem.W.keepIn K (.ref f12) = true)
    (a13 : PySem.W.nsIn K mainGlobals "_law_letters" = some (some (.ref f13)))
    (l13 : K.lookup f13 = some ⟨oc13, od13, .func (PySem.W.fnOf "_law_letters" "_law_letters" (defArgs s__law_letters) (defBody s__law_letters) (defScope s__law_letters) .none kV13 dc13 pm13 an13 cd13 ct13), sl13⟩)
    (q13 : PySem.W.codeIn K cd13 "_law_letters" = true)
    (k13 : PySem.W.keepIn K (.ref f13) = true)
    (a14 : PySem.W.nsIn K mainGlobals "law" = some (some (.ref f14)))
    (l14 : K.lookup f14 = some ⟨oc14, od14, .func (PySem.W.fnOf "law" "law" (defArgs s_law) (defBody s_law) (defScope s_law) .none kV14 dc14 pm14 an14 cd14 ct14), sl14⟩)
    (q14 : PySem.W.codeIn K cd14 "law" = true)
    (k14 : PySem.W.keepIn K (.ref f14) = true)
    (v_SIGNS : PySem.W.nsIn K mainGlobals "SIGNS" = some (some (Value.str ".xzy" t_SIGNS)))
    (v_XS : PySem.W.nsIn K mainGlobals "XS" = some (some (Value.int 1 t_XS)))
    (v_ZS : PySem.W.nsIn K mainGlobals "ZS" = some (some (Value.int 2 t_ZS)))
    (v_MINUS : PySem.W.nsIn K mainGlobals "MINUS" = some (some (Value.int 0 t_MINUS)))
    (z_range : PySem.W.nsIn K mainGlobals "range" = some none)
    (z_len : PySem.W.nsIn K mainGlobals "len" = some none)
    (z_enumerate : PySem.W.nsIn K mainGlobals "enumerate" = some none)
    (z_str : PySem.W.nsIn K mainGlobals "str" = some none)
    (z_sorted : PySem.W.nsIn K mainGlobals "sorted" = some none)
    (z_list : PySem.W.nsIn K mainGlobals "list" = some none)
    (z_dict : PySem.W.nsIn K mainGlobals "dict" = some none) :
    ∃ fd : FuncData, (∀ (s : Shared) (v : Value), BindsTo s fd ⟨[v], []⟩ [("_law_script", v)]) ∧ ∀ base : Heap, K.In base → base.Ns mainGlobals mg → FnOk l.prog w K mg base CX0 5 fa fd ["_law_script"] (sp_law K) := by
  have e := hfa.symm.trans (PySem.W.mg_of KX G a14)
  cases e
  have F0 := fun_mk (st := s_bit_at) l0 q0 k0
  have b0 := F0.binds (ps := ["number", "k"]) fun _ _ _ _ _ _ us hl => match us, hl with | [_, _], _ => rfl
  have F1 := fun_mk (st := s_sign_at) l1 q1 k1
  have b1 := F1.binds (ps := ["row", "k"]) fun _ _ _ _ _ _ us hl => match us, hl with | [_, _], _ => rfl
  have F2 := fun_mk (st := s_letters_of) l2 q2 k2
  have b2 := F2.binds (ps := ["row", "n"]) fun _ _ _ _ _ _ us hl => match us, hl with | [_, _], _ => rfl
  have F3 := fun_mk (st := s_show_rows) l3 q3 k3
  have b3 := F3.binds (ps := ["rows", "n"]) fun _ _ _ _ _ _ us hl => match us, hl with | [_, _], _ => rfl
  have F4 := fun_mk (st := s__law_cell_at) l4 q4 k4
  have b4 := F4.binds (ps := ["_law_script", "_law_k"]) fun _ _ _ _ _ _ us hl => match us, hl with | [_, _], _ => rfl
  have F5 := fun_mk (st := s__law_lines) l5 q5 k5
  have b5 := F5.binds (ps := ["_law_lines_here"]) fun _ _ _ _ _ _ us hl => match us, hl with | [_], _ => rfl
  have F6 := fun_mk (st := s__law_mixed) l6 q6 k6
  have b6 := F6.binds (ps := ["_law_draw", "_law_k"]) fun _ _ _ _ _ _ us hl => match us, hl with | [_, _], _ => rfl
  have F7 := fun_mk (st := s__law_number) l7 q7 k7
  have b7 := F7.binds (ps := ["_law_draw", "_law_k"]) fun _ _ _ _ _ _ us hl => match us, hl with | [_, _], _ => rfl
  have F8 := fun_mk (st := s_show_amount) l8 q8 k8
  have b8 := F8.binds (ps := ["b", "pair", "n"]) fun _ _ _ _ _ _ us hl => match us, hl with | [_, _, _], _ => rfl
  have F9 := fun_mk (st := s_show_whole) l9 q9 k9
  have b9 := F9.binds (ps := ["whole", "n"]) fun _ _ _ _ _ _ us hl => match us, hl with | [_, _], _ => rfl
  have F10 := fun_mk (st := s__law_bits) l10 q10 k10
  have b10 := F10.binds (ps := ["_law_draw", "_law_k", "_law_n"]) fun _ _ _ _ _ _ us hl => match us, hl with | [_, _, _], _ => rfl
  have F11 := fun_mk (st := s__law_signs) l11 q11 k11
  have b11 := F11.binds (ps := ["_law_draw", "_law_n"]) fun _ _ _ _ _ _ us hl => match us, hl with | [_, _], _ => rfl
  have F12 := fun_mk (st := s__law_whole_lines) l12 q12 k12
  have b12 := F12.binds (ps := ["_law_whole", "_law_n"]) fun _ _ _ _ _ _ us hl => match us, hl with | [_, _], _ => rfl
  have F13 := fun_mk (st := s__law_letters) l13 q13 k13
  have b13 := F13.binds (ps := ["_law_row", "_law_n"]) fun _ _ _ _ _ _ us hl => match us, hl with | [_, _], _ => rfl
  have F14 := fun_mk (st := s_law) l14 q14 k14
  have g_SIGNS : GC mg "SIGNS" (.str ".xzy") := ⟨_, PySem.W.mg_of KX G v_SIGNS, ⟨_, rfl⟩⟩
  have g_XS : GC mg "XS" (.int 1) := ⟨_, PySem.W.mg_of KX G v_XS, ⟨_, rfl⟩⟩
  have g_ZS : GC mg "ZS" (.int 2) := ⟨_, PySem.W.mg_of KX G v_ZS, ⟨_, rfl⟩⟩
  have g_MINUS : GC mg "MINUS" (.int 0) := ⟨_, PySem.W.mg_of KX G v_MINUS, ⟨_, rfl⟩⟩
  have b_range : mg "range" = none := PySem.W.mg_none_of KX G z_range
  have b_len : mg "len" = none := PySem.W.mg_none_of KX G z_len
  have b_enumerate : mg "enumerate" = none := PySem.W.mg_none_of KX G z_enumerate
  have b_str : mg "str" = none := PySem.W.mg_none_of KX G z_str
  have b_sorted : mg "sorted" = none := PySem.W.mg_none_of KX G z_sorted
  have b_list : mg "list" = none := PySem.W.mg_none_of KX G z_list
  have b_dict : mg "dict" = none := PySem.W.mg_none_of KX G z_dict
  refine ⟨PySem.W.fnOf "law" "law" (defArgs s_law) (defBody s_law) (defScope s_law) .none kV14 dc14 pm14 an14 cd14 ct14, fun s v => .of_eq rfl, fun base _ _ => ?_⟩
  have o_bit_at := ok_bit_at (P := l.prog) (w := w) (mg := mg) (base := base) F0 
  have c_bit_at : Cal l.prog w K mg base CX0 1 "bit_at" ["number", "k"] (sp_bit_at K) := ⟨f0, _, o_bit_at, b0, k0, PySem.W.mg_of KX G a0⟩
  have o_sign_at := ok_sign_at (P := l.prog) (w := w) (mg := mg) (base := base) F1 g_SIGNS c_bit_at g_XS g_ZS
  have c_sign_at : Cal l.prog w K mg base CX0 2 "sign_at" ["row", "k"] (sp_sign_at K) := ⟨f1, _, o_sign_at, b1, k1, PySem.W.mg_of KX G a1⟩
  have o_letters_of := ok_letters_of (P := l.prog) (w := w) (mg := mg) (base := base) F2 g_MINUS c_sign_at b_range
  have c_letters_of : Cal l.prog w K mg base CX0 3 "letters_of" ["row", "n"] (sp_letters_of K) := ⟨f2, _, o_letters_of, b2, k2, PySem.W.mg_of KX G a2⟩
  have o_show_rows := ok_show_rows (P := l.prog) (w := w) (mg := mg) (base := base) F3 c_letters_of
  have o__law_cell_at := ok__law_cell_at (P := l.prog) (w := w) (mg := mg) (base := base) F4 b_len
  have o__law_lines := ok__law_lines (P := l.prog) (w := w) (mg := mg) (base := base) F5 b_enumerate
  have o__law_mixed := ok__law_mixed (P := l.prog) (w := w) (mg := mg) (base := base) F6 
  have c__law_mixed : Cal l.prog w K mg base CX0 1 "_law_mixed" ["_law_draw", "_law_k"] (sp__law_mixed K) := ⟨f6, _, o__law_mixed, b6, k6, PySem.W.mg_of KX G a6⟩
  have o__law_number := ok__law_number (P := l.prog) (w := w) (mg := mg) (base := base) F7 c__law_mixed
  have o_show_amount := ok_show_amount (P := l.prog) (w := w) (mg := mg) (base := base) F8 b_str c_bit_at b_range
  have c_show_amount : Cal l.prog w K mg base CX0 2 "show_amount" ["b", "pair", "n"] (sp_show_amount K) := ⟨f8, _, o_show_amount, b8, k8, PySem.W.mg_of KX G a8⟩
  have o_show_whole := ok_show_whole (P := l.prog) (w := w) (mg := mg) (base := base) F9 c_show_amount b_sorted
  have o__law_bits := ok__law_bits (P := l.prog) (w := w) (mg := mg) (base := base) F10 c__law_mixed
  have c__law_bits : Cal l.prog w K mg base CX0 2 "_law_bits" ["_law_draw", "_law_k", "_law_n"] (sp__law_bits K) := ⟨f10, _, o__law_bits, b10, k10, PySem.W.mg_of KX G a10⟩
  have o__law_signs := ok__law_signs (P := l.prog) (w := w) (mg := mg) (base := base) F11 c__law_bits c__law_mixed
  have o__law_whole_lines := ok__law_whole_lines (P := l.prog) (w := w) (mg := mg) (base := base) F12 b_range b_str
  have o__law_letters := ok__law_letters (P := l.prog) (w := w) (mg := mg) (base := base) F13 b_range
  have c_show_rows : Cal l.prog w K mg base CX0 4 "show_rows" ["rows", "n"] (sp_show_rows K) := ⟨f3, _, o_show_rows, b3, k3, PySem.W.mg_of KX G a3⟩
  have c__law_cell_at : Cal l.prog w K mg base CX0 1 "_law_cell_at" ["_law_script", "_law_k"] (sp__law_cell_at K) := ⟨f4, _, o__law_cell_at, b4, k4, PySem.W.mg_of KX G a4⟩
  have c__law_lines : Cal l.prog w K mg base CX0 1 "_law_lines" ["_law_lines_here"] (sp__law_lines K) := ⟨f5, _, o__law_lines, b5, k5, PySem.W.mg_of KX G a5⟩
  have c__law_number : Cal l.prog w K mg base CX0 2 "_law_number" ["_law_draw", "_law_k"] (sp__law_number K) := ⟨f7, _, o__law_number, b7, k7, PySem.W.mg_of KX G a7⟩
  have c_show_whole : Cal l.prog w K mg base CX0 3 "show_whole" ["whole", "n"] (sp_show_whole K) := ⟨f9, _, o_show_whole, b9, k9, PySem.W.mg_of KX G a9⟩
  have c__law_signs : Cal l.prog w K mg base CX0 3 "_law_signs" ["_law_draw", "_law_n"] (sp__law_signs K) := ⟨f11, _, o__law_signs, b11, k11, PySem.W.mg_of KX G a11⟩
  have c__law_whole_lines : Cal l.prog w K mg base CX0 1 "_law_whole_lines" ["_law_whole", "_law_n"] (sp__law_whole_lines K) := ⟨f12, _, o__law_whole_lines, b12, k12, PySem.W.mg_of KX G a12⟩
  have c__law_letters : Cal l.prog w K mg base CX0 1 "_law_letters" ["_law_row", "_law_n"] (sp__law_letters K) := ⟨f13, _, o__law_letters, b13, k13, PySem.W.mg_of KX G a13⟩
  exact ok_law F14 b_list b_dict c_show_rows c__law_cell_at c__law_lines c__law_number c_show_whole c__law_signs c__law_bits c__law_whole_lines c__law_letters
theorem walk {l : PySem.W.OpenLaw} {q : Program} {loose : List Str} {XP : (Str → Option Value) → Heap → Prop} {YP : World → Heap → Prop} {d : DefRec} {K : Params → PySem.W.Frag} (hn : l.most = some 63) (hdf : d.params.defaults = [])
    (hY : ∀ (w : World) (h : Heap), YP w h → (K w.params).In h)
    (F : ∀ (w : World) (mg : Str → Option Value) (fa : Addr) (h : Heap), (K w.params).In h → h.Ns mainGlobals mg → mg d.name = some (.ref fa) →
      ∃ fd : FuncData, (∀ (s : Shared) (u : Value), BindsTo s fd ⟨[u], []⟩ [("_law_script", u)]) ∧ ∀ base : Heap, (K w.params).In base → base.Ns mainGlobals mg → FnOk l.prog w (K w.params) mg base CX0 5 fa fd ["_law_script"] (sp_law (K w.params))) :
    PySem.W.WalkO q loose XP YP l.row.toRowW d [] (fun f vs => PySem.call f vs) :=
  L2.walk_of (n := 63) (k := 5) (x := "_law_script") (CX := fun _ => CX0) (sp := fun w => sp_law (K w.params)) hn (by decide) hdf ⟨rfl, by decide, by decide⟩ hY F (fun _ _ a ns hl _ hS => ⟨a, ns, rfl, hS, hl, fun _ => rfl⟩) fun _ _ _ _ _ z => z
end Tw
open PySem PySem.W PyProof.Rows
set_option maxRecDepth 100000 in
set_option maxHeartbeats 0 in
theorem PySem.Challenge.cw_twinwires_k83_rows_and_wholes_listed_holds : PySem.Challenge.rw_twinwires_k83_rows_and_wholes_listed.Holds := by
  w_on; o_law
  refine Tw.holds_once Tw.run0 Tw.run1 (by kernel_rfl) (fun _ => by kernel_rfl) (by kernel_rfl) (by rfl) (by rfl) (by rfl) (by rfl) (by first | assumption | decide +kernel) (by decide +kernel) ⟨rfl, rfl, rfl, rfl, rfl, by decide +kernel⟩ ?hw ?hc
  (case hw => w_witness2)
  k_fill
  refine Tw.walk (l := PySem.Challenge.rw_twinwires_k83_rows_and_wholes_listed) rfl rfl (fun w h Y => PySem.W.kIn_of Y) ?F
  case F =>
    intro w mg fa h KX G hmg
    refine' Tw.all_mk KX G hmg ?a0 ?l0 ?q0 ?k0 ?a1 ?l1 ?q1 ?k1 ?a2 ?l2 ?q2 ?k2 ?a3 ?l3 ?q3 ?k3 ?a4 ?l4 ?q4 ?k4 ?a5 ?l5 ?q5 ?k5 ?a6 ?l6 ?q6 ?k6 ?a7 ?l7 ?q7 ?k7 ?a8 ?l8 ?q8 ?k8 ?a9 ?l9 ?q9 ?k9 ?a10 ?l10 ?q10 ?k10 ?a11 ?l11 ?q11 ?k11 ?a12 ?l12 ?q12 ?k12 ?a13 ?l13 ?q13 ?k13 ?a14 ?l14 ?q14 ?k14 ?v_SIGNS ?v_XS ?v_ZS ?v_MINUS ?z_range ?z_len ?z_enumerate ?z_str ?z_sorted ?z_list ?z_dict
    (case a0 => k_is)
    (case l0 => k_is)
    (case q0 => k_is)
    (case k0 => k_is)
    (case a1 => k_is)
    (case l1 => k_is)
    (case q1 => k_is)
    (case k1 => k_is)
    (case a2 => k_is)
    (case l2 => k_is)
    (case q2 => k_is)
    (case k2 => k_is)
    (case a3 => k_is)
    (case l3 => k_is)
    (case q3 => k_is)
    (case k3 => k_is)
    (case a4 => k_is)
    (case l4 => k_is)
    (case q4 => k_is)
    (case k4 => k_is)
    (case a5 => k_is)
    (case l5 => k_is)
    (case q5 => k_is)
    (case k5 => k_is)
    (case a6 => k_is)
    (case l6 => k_is)
    (case q6 => k_is)
    (case k6 => k_is)
    (case a7 => k_is)
    (case l7 => k_is)
    (case q7 => k_is)
    (case k7 => k_is)
    (case a8 => k_is)
    (case l8 => k_is)
    (case q8 => k_is)
    (case k8 => k_is)
    (case a9 => k_is)
    (case l9 => k_is)
    (case q9 => k_is)
    (case k9 => k_is)
    (case a10 => k_is)
    (case l10 => k_is)
    (case q10 => k_is)
    (case k10 => k_is)
    (case a11 => k_is)
    (case l11 => k_is)
    (case q11 => k_is)
    (case k11 => k_is)
    (case a12 => k_is)
    (case l12 => k_is)
    (case q12 => k_is)
    (case k12 => k_is)
    (case a13 => k_is)
    (case l13 => k_is)
    (case q13 => k_is)
    (case k13 => k_is)
    (case a14 => k_is)
    (case l14 => k_is)
    (case q14 => k_is)
    (case k14 => k_is)
    (case v_SIGNS => k_is)
    (case v_XS => k_is)
    (case v_ZS => k_is)
    (case v_MINUS => k_is)
    (case z_range => k_is)
    (case z_len => k_is)
    (case z_enumerate => k_is)
    (case z_str => k_is)
    (case z_sorted => k_is)
    (case z_list => k_is)
    (case z_dict => k_is)

