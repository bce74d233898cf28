import PyProof.Rows.All
import Wide.All
import OpenK.AllK
import Wide.FinOn
import Lean
import PyProof.EqAt
import PyProof.EqKinds
import PyProof.TupleCall
import Open.Pieces
import KE.KPairComp
import PyProof.DictValues
import PyProof.DictWalks
import PyProof.Rows.SumAny
import PyProof.AttrMissHeap
import KE.KDictOf
import KE.KDictList
import KE.KRevIter
import PyProof.Rows.SortWalk
import PyProof.Rows.SortRev
import PyProof.Rows.CallKwBuiltin
import PySem.Challenge.RW_twinwires_k23_the_same_but_for_a_factor
set_option maxRecDepth 100000
namespace Tw
open PySem PySem.Calls PySem.W PyProof.Rows

def runG (thr ok : Thread → Bool) (go : SharedT → Thread → Option (SharedT × Thread)) : Nat → SharedT → Thread → Option SharedT
  | 0, _, _ => none
  | m + 1, a, x => match thr x with
    | true => some a
    | false => match ok x with
      | false => none
      | true => match go a x with
        | some (b, y) => (match Nat.beq b.toks b.toks with
          | true => runG thr ok go m b y
          | false => none)
        | none => none

theorem runG_top {tb : String → Option Builtin} {p : Program} {w : World} {i : Nat} {an : Option Value} : ∀ (m : Nat) (a b : SharedT) (x : Thread),
    runG through (stepOk i an) (stepT (denote tb) p w) m a x = some b → topRun tb p w i an m a.abs x = some b.abs
  | 0, _, _, _, h => by cases h
  | m + 1, a, b, x, h => by
    unfold runG at h
    unfold topRun
    cases e1 : through x with
    | true => rw [e1] at h; cases h; rfl
    | false =>
      rw [e1] at h
      cases e2 : stepOk i an x with
      | false => rw [e2] at h; cases h
      | true =>
        rw [e2] at h
        cases e3 : stepT (denote tb) p w a x with
        | none => rw [e3] at h; cases h
        | some r =>
          obtain ⟨c, y⟩ := r
          rw [e3] at h
          rw [stepT_spec e3]
          dsimp only at h ⊢
          cases e4 : Nat.beq c.toks c.toks with
          | false => rw [e4] at h; cases h
          | true => rw [e4] at h; exact runG_top m c b y h

def runT (p : Program) (w : World) (i : Nat) (an : Option Value) (m : Nat) (a : SharedT) : Option SharedT := runG through (stepOk i an) (stepT (denote treeTable) p w) m a (topStub p)
noncomputable def bootT (P : Params) : BT := ((boot_heap P).objs.toList.foldl (fun (x : BT × Nat) o => (x.1.ins x.2 o, x.2 + 1)) (BT.nil, 0)).1
noncomputable def bootS (n : Nat) (w : World) (os : OsState) : SharedT := ⟨bootT w.params, n, (boot_heap w.params).life, Array.mk [], boot_drawn, boot_toks, os⟩

noncomputable def lookT (p q : Program) (lo : List Str) (Xt : Shared → Bool) (w : World) (s : Shared) :=
  ((staticsOk (importedModules p.main.body) (boot_heap w.params) s.heap && namesBound p s.heap && gensDone s && laidKept (boot_heap w.params) s.heap), openSeen q lo (importedModules p.main.body) Xt true s)

theorem left_once {p q : Program} {lo : List Str} {Xt : Shared → Bool} {β : Type} {Yf : Shared → β} {Ya : World → β} {N M n : Nat} {an : Option Value} (row : String)
    (e : opening p = plainProg p.main.scope.names) (h6 : Nat.ble 600 N = true) (fe : ∀ s, fenceModules? p s = some s)
    (tr : ∀ P, absHeap (bootT P) n (boot_heap P).life = boot_heap P)
    (sz : ∀ P, ((boot_heap P).isNs mainGlobals, (boot_heap P).objs.size, (boot_heap P).nsMap mainGlobals "__annotations__") = (true, n, an))
    (le : Nat.ble M N = true)
    (run0 : ∀ (w : World) (os : OsState), (runT p (w.withFollow row false) n an M (bootS n (w.withFollow row false) os)).map (fun s => (lookT p q lo Xt (w.withFollow row false) s.abs, Yf s.abs)) = some ((true, openGood q lo), Ya (w.withFollow row false)))
    (run1 : ∀ (w : World) (os : OsState), (runT p (w.withFollow row true) n an M (bootS n (w.withFollow row true) os)).map (fun s => (lookT p q lo Xt (w.withFollow row true) s.abs, Yf s.abs)) = some ((true, openGood q lo), Ya (w.withFollow row true))) :
    LeftO p q lo Xt Yf Ya N true := byRow2 row (P := fun w => (openEnds treeTable p w N).map (fun s => (openSeen q lo (importedModules p.main.body) Xt true s, Yf s)) = some (openGood q lo, Ya w)) (fun w => one _ (run0 w)) (fun w => one _ (run1 w))
  where
  one (w : World) (run : ∀ os : OsState, (runT p w n an M (bootS n w os)).map (fun s => (lookT p q lo Xt w s.abs, Yf s.abs)) = some ((true, openGood q lo), Ya w)) :
      (openEnds treeTable p w N).map (fun s => (openSeen q lo (importedModules p.main.body) Xt true s, Yf s)) = some (openGood q lo, Ya w) := by
    obtain ⟨⟨h, gs, d, k, os⟩, a1, a2⟩ := Option.map_eq_some_iff.mp (boot_open e h6 fe w)
    simp only [Prod.mk.injEq] at a2
    obtain ⟨rfl, rfl, rfl, rfl⟩ := a2
    obtain ⟨b, b1, b2⟩ := Option.map_eq_some_iff.mp (run os)
    simp only [Prod.mk.injEq, lookT] at b2
    obtain ⟨⟨l1, l2⟩, l3⟩ := b2
    have r : topRun treeTable p w n an M ⟨boot_heap w.params, Array.mk [], boot_drawn, boot_toks, os⟩ (topStub p) = some b.abs := by
      have := runG_top _ _ _ _ b1
      rw [← tr w.params]
      exact this
    have r := topRun_mono (N - M) _ _ _ _ r
    rw [show M + (N - M) = N by have := Nat.le_of_ble_eq_true le; omega] at r
    have z := sz w.params
    simp only [Prod.mk.injEq] at z
    obtain ⟨z1, z2, z3⟩ := z
    have t : topFrom treeTable p w N ⟨boot_heap w.params, Array.mk [], boot_drawn, boot_toks, os⟩ = some b.abs := by
      unfold topFrom
      dsimp only
      rw [z1, z2, z3, r]
      show (match staticsOk (importedModules p.main.body) (boot_heap w.params) b.abs.heap && namesBound p b.abs.heap && gensDone b.abs && laidKept (boot_heap w.params) b.abs.heap with | true => some b.abs | false => none) = _
      rw [l1]
    unfold openEnds
    rw [a1]
    show (topFrom treeTable p w N _).map _ = _
    rw [t]
    exact congrArg some (Prod.ext l2 l3)
theorem runT_self : Tw.runT = Tw.runT := rfl
theorem lookT_self : @Tw.lookT = @Tw.lookT := rfl
end Tw
lay_quick Tw.runT Tw.lookT
name_quick runQ for Tw.runT by Tw.runT_self
name_quick lookQ for Tw.lookT by Tw.lookT_self
namespace Tw
open PySem PySem.Calls PySem.W PyProof.Rows
theorem boot_tree (P : Params) : absHeap (bootT P) 11 (boot_heap P).life = boot_heap P := by kernel_rfl
theorem boot_size (P : Params) : ((boot_heap P).isNs mainGlobals, (boot_heap P).objs.size, (boot_heap P).nsMap mainGlobals "__annotations__") = (true, 11, some (.ref 6)) := by kernel_rfl
def RunOk (r : OpenRow) (q : Program) (lo : List Str) (lv : List (Str × WData)) (H : Hook) (N : Nat) (row : String) (b : Bool) : Prop :=
  ∀ (w : World) (os : OsState), (Fast.runQ r.prog (w.withFollow row b) 11 (some (.ref 6)) N (bootS 11 (w.withFollow row b) os)).map (fun s => (Fast.lookQ r.prog q lo (fun s => xlAt q lv s && recOk r.records s) (w.withFollow row b) s.abs, H.obs s.abs)) = some ((true, openGood q lo), H.val (w.withFollow row b))
theorem holds_once {r : OpenRow} {q : Program} {lo : List Str} {lv : List (Str × WData)} {d : DefRec} {kwd : List (Str × Expr)} {N : Nat} {H : Hook} {row : String} (run0 : RunOk r q lo lv H N row false) (run1 : RunOk r q lo lv H N row true)
    (e : opening r.prog = plainProg r.prog.main.scope.names) (fe : ∀ s, fenceModules? r.prog s = some s) (h6 : Nat.ble 600 N = true)
    (hd : defOf q r.name = some (d, kwd)) (hp : r.prog.theDef r.name = some (d.params, d.body, d.scope)) (hk : kwWritten? d.params.kwonlyargs d.params.kw_defaults = some kwd) (hwr : (!r.writes || r.records.isEmpty) = true)
    (k1 : r.wellSaid = true) (ok : (chainsOk q && opensWell r.prog && (frees r.toRowW && r.within.isEmpty)) = true) (hb : r.prog.bare) (hw : r.toRowW.promised) (hc : WalkO q lo (XL q lv) H.says r.toRowW d kwd fun f vs => PySem.call f vs) : r.Holds :=
  holds_open (Xt := fun s => xlAt q lv s && recOk r.records s) (N := N)
    (left_once (M := N) row e h6 fe boot_tree boot_size (Nat.ble_eq.mpr (Nat.le_refl N)) (by rw [Fast.runQ_eq, Fast.lookQ_eq]; exact run0) (by rw [Fast.runQ_eq, Fast.lookQ_eq]; exact run1))
    H.of H.keeps (fun s z => xl_of s (Bool.and_eq_true_iff.mp z).1) XL.keeps hd hp hk (fun s z => recFacts_of (Bool.and_eq_true_iff.mp z).2) hwr k1 ok hb hw hc
end Tw

set_option Elab.async false
set_option maxRecDepth 100000
/-! the top -/
section
open PySem PySem.W
set_option maxHeartbeats 0
local macro_rules | `(tactic| o_head $_) => `(tactic| assumption)
theorem Tw.pre : PySem.Challenge.rw_twinwires_k23_the_same_but_for_a_factor.row.Holds → PySem.Challenge.rw_twinwires_k23_the_same_but_for_a_factor.row.Holds := by
  intro _
  k_head
noncomputable def Tw.vw : Program := PySem.W.view PySem.Challenge.pw_twinwires_k23_the_same_but_for_a_factor [1, 3, 5, 6, 7, 8, 9, 10, 11, 12, 13, 14, 15, 16]
noncomputable def Tw.hk : PySem.W.Hook := PySem.W.kHook Tw.pre.heap_1 [2, 3, 6, 15, 17, 18, 20, 21, 22, 25, 26, 27, 29, 30, 32, 33, 34, 36, 37, 39, 40, 41, 43, 44, 46, 47, 48, 50, 51, 53, 54, 55, 57, 58, 60, 61, 62, 64, 65, 67, 68, 69, 72, 73, 74, 76, 77, 79, 80, 81, 84, 85, 86, 88, 89, 91, 92, 93, 95, 96, 98, 99, 100, 102, 103, 105, 106] (fun _ => by kernel_rfl)
theorem Tw.run0 : Tw.RunOk PySem.Challenge.rw_twinwires_k23_the_same_but_for_a_factor.row Tw.vw [] [] Tw.hk 1022 "special-get-raises" false := fun w os => by kernel_rfl
theorem Tw.run1 : Tw.RunOk PySem.Challenge.rw_twinwires_k23_the_same_but_for_a_factor.row Tw.vw [] [] Tw.hk 1022 "special-get-raises" true := fun w os => by kernel_rfl
end
/-! the top ends -/

-- CHANGE: your row's module here, as the last of these rows
set_option Elab.async false
set_option linter.all false
set_option maxRecDepth 100000
namespace L2
open PySem PySem.Spec PyProof.Rows

abbrev Key := Sum Int Str
def keyIs : Key → Value → Bool
  | .inl k, v => Value.isInt k v
  | .inr x, v => Value.isStrOf x v
def keyH (w : World) : Key → Int
  | .inl k => hashInt k
  | .inr x => hashStr w x
theorem keyIs_shape : ∀ {k : Key} {v : Value}, keyIs k v = true → (∃ i t, k = Sum.inl i ∧ v = Value.int i t) ∨ (∃ x t, k = Sum.inr x ∧ v = Value.str x t)
  | .inl i, v, h => by
    obtain ⟨t, e⟩ := Value.isInt_shape (k := i) (v := v) h
    exact .inl ⟨i, t, rfl, e⟩
  | .inr x, v, h => by
    obtain ⟨t, e⟩ := Value.isStrOf_shape (x := x) (v := v) h
    exact .inr ⟨x, t, rfl, e⟩
theorem keyIs_int (i : Int) (t : Tok) : keyIs (.inl i) (.int i t) = true := by simp [keyIs, Value.isInt]
theorem keyIs_str (x : Str) (t : Tok) : keyIs (.inr x) (.str x t) = true := by simp [keyIs, Value.isStrOf]
theorem key_ll (a b : Int) : decide ((Sum.inl a : Key) = Sum.inl b) = (a == b) := by
  by_cases e : a = b
  · subst e; simp
  · have h : ¬ (Sum.inl a : Key) = Sum.inl b := fun q => e (Sum.inl.inj q)
    rw [decide_eq_false h]
    exact (beq_eq_false_iff_ne.mpr e).symm
theorem key_rr (a b : Str) : decide ((Sum.inr a : Key) = Sum.inr b) = decide (a = b) := by
  by_cases e : a = b
  · subst e; simp
  · have h : ¬ (Sum.inr a : Key) = Sum.inr b := fun q => e (Sum.inr.inj q)
    rw [decide_eq_false h, decide_eq_false e]
theorem key_lr (a : Int) (b : Str) : decide ((Sum.inl a : Key) = Sum.inr b) = false := decide_eq_false (fun q => nomatch q)
theorem key_rl (a : Str) (b : Int) : decide ((Sum.inr a : Key) = Sum.inl b) = false := decide_eq_false (fun q => nomatch q)

def mixKind (prog : Program) (w : World) : PySem.KeyKind prog w Key where
  is := keyIs
  hash := keyH w
  inj := fun v a b ha hb => by
    rcases keyIs_shape ha with ⟨i, t, rfl, rfl⟩ | ⟨x, t, rfl, rfl⟩
    · rcases keyIs_shape hb with ⟨j, u, rfl, e⟩ | ⟨y, u, rfl, e⟩
      · injection e with e1 _; rw [e1]
      · exact nomatch e
    · rcases keyIs_shape hb with ⟨j, u, rfl, e⟩ | ⟨y, u, rfl, e⟩
      · exact nomatch e
      · injection e with e1 _; rw [e1]
  byValue := fun k v h => by
    rcases keyIs_shape h with ⟨i, t, rfl, rfl⟩ | ⟨x, t, rfl, rfl⟩ <;> rfl
  pyHash := fun hv h => by
    rcases keyIs_shape hv with ⟨i, t, rfl, rfl⟩ | ⟨x, t, rfl, rfl⟩
    · exact wpAny_pyHash_int h
    · exact wpAny_pyHash_str h
  eqBool := fun hu hv h => by
    rcases keyIs_shape hu with ⟨i, t, rfl, rfl⟩ | ⟨x, t, rfl, rfl⟩
    · rcases keyIs_shape hv with ⟨j, u, rfl, rfl⟩ | ⟨y, u, rfl, rfl⟩
      · rw [key_ll] at h; exact wpAny_eqBool_int h
      · rw [key_lr] at h; exact SeqAt.EqAt.int_str i t y u _ _ _ _ h
    · rcases keyIs_shape hv with ⟨j, u, rfl, rfl⟩ | ⟨y, u, rfl, rfl⟩
      · rw [key_rl] at h; exact SeqAt.EqAt.str_int x t j u _ _ _ _ h
      · rw [key_rr] at h; exact wpAny_eqBool_str h
  «strs» := fun k x t v h => by
    rcases keyIs_shape h with ⟨i, u, rfl, e⟩ | ⟨y, u, rfl, e⟩
    · exact nomatch e
    · injection e with e1 _
      subst e1
      cases v <;> rfl

theorem mixKind_is (prog : Program) (w : World) (k : Key) (v : Value) : (mixKind prog w).is k v = keyIs k v := rfl
theorem mixKind_int (prog : Program) (w : World) (i : Int) (t : Tok) : (mixKind prog w).is (.inl i) (.int i t) = true := keyIs_int i t
theorem mixKind_str (prog : Program) (w : World) (x : Str) (t : Tok) : (mixKind prog w).is (.inr x) (.str x t) = true := keyIs_str x t
end L2

namespace L2
open PySem PySem.Spec PyProof.Rows

inductive V where
  | non | bl (b : Bool) | int (i : Int) | str (x : Str) | byt (b : Array UInt8) | flt (b : UInt64) | ref (a : Addr) | ty (n : String)
  deriving DecidableEq

def RelV : V → Value → Prop
  | .non, u => u = Value.none
  | .bl b, u => u = Value.bool b
  | .int i, u => ∃ t, u = Value.int i t
  | .str x, u => ∃ t, u = Value.str x t
  | .byt b, u => ∃ t, u = Value.bytes b t
  | .flt b, u => ∃ t, u = Value.float b t
  | .ref a, u => u = Value.ref a
  | .ty n, u => u = Value.type n

abbrev Vals : List V → List Value → Prop := Paired RelV
theorem Vals.length {xs : List V} {us : List Value} (r : Vals xs us) : xs.length = us.length := Paired.length r
theorem Vals.get : ∀ {xs : List V} {us : List Value} {i : Nat} {x : V}, Vals xs us → xs[i]? = some x → ∃ u, us[i]? = some u ∧ RelV x u
  | _, _, _, _, .nil, e => by simp at e
  | _, _, 0, _, .cons r _, e => by simp at e; subst e; exact ⟨_, rfl, r⟩
  | _, _, i + 1, x, .cons _ t, e => by
    obtain ⟨u, h1, h2⟩ := Vals.get (i := i) (x := x) t (by simpa using e)
    exact ⟨u, by simpa using h1, h2⟩
theorem Vals.set {x : V} {u : Value} (r : RelV x u) : ∀ {xs : List V} {us : List Value} (i : Nat), Vals xs us → Vals (xs.set i x) (us.set i u)
  | _, _, _, .nil => .nil
  | _, _, 0, .cons _ t => .cons r t
  | _, _, i + 1, .cons q t => .cons q (Vals.set r i t)
theorem Vals.append : ∀ {xs ys : List V} {us ws : List Value}, Vals xs us → Vals ys ws → Vals (xs ++ ys) (us ++ ws)
  | _, _, _, _, .nil, s => s
  | _, _, _, _, .cons r t, s => .cons r (Vals.append t s)
theorem Vals.take : ∀ {xs : List V} {us : List Value} (n : Nat), Vals xs us → Vals (xs.take n) (us.take n)
  | _, _, 0, _ => .nil
  | _, _, _ + 1, .nil => .nil
  | _, _, n + 1, .cons r t => .cons r (Vals.take n t)
theorem Vals.drop : ∀ {xs : List V} {us : List Value} (n : Nat), Vals xs us → Vals (xs.drop n) (us.drop n)
  | _, _, 0, r => r
  | _, _, _ + 1, .nil => .nil
  | _, _, n + 1, .cons _ t => Vals.drop n t
theorem Vals.none_of : ∀ {xs : List V} {us : List Value} {i : Nat}, Vals xs us → xs[i]? = none → us[i]? = none := fun {xs us i} r e => by
  have h1 := r.length
  have h2 : xs.length ≤ i := List.getElem?_eq_none_iff.mp e
  exact List.getElem?_eq_none_iff.mpr (by omega)

def RelO : Option V → Option Value → Prop
  | some v, some u => RelV v u
  | none, none => True
  | _, _ => False
def KV {κ : Type} : List (κ × V) → List (κ × Value) → Prop := Paired fun (p : κ × V) (q : κ × Value) => p.1 = q.1 ∧ RelV p.2 q.2

def kV : Key → V
  | .inl i => .int i
  | .inr x => .str x

inductive HO where
  /-- a list -/
  | lst (xs : List V)
  /-- a tuple (never changes) -/
  | tup (xs : List V)
  /-- a dict whose keys are ints and texts; one whose keys are tuples of ints and texts (the empty one is both) -/
  | dK (kvs : List (Key × V)) | dT (kvs : List (List Key × V))
  /-- a set of ints: its members, its size -/
  | set (S : Int → Bool) (n : Nat)
  /-- an instance of the class at C, its dict at dx, its attributes -/
  | ins (C dx : Addr) (fs : List (Str × V))
  /-- the dict of the instance at x -/
  | own (x : Addr)
  /-- the dict of an exception -/
  | xd (fs : List (Str × V))
  /-- a bound method, f of x -/
  | met (f x : Addr)
  /-- a range object lo, lo + 1, .. below hi -/
  | rng (lo hi : Int)
  /-- a thing that is known to the object (the script; a dict while a loop walks it): read, never written while it is so -/
  | frz (o : Obj) (u : HO)
  /-- a code object's table -/
  | tbl (ps : Array Value)
  /-- any other thing, by what is true of its one object (a def of one's own: SetO a S n := HO.ext fun h => ..) -/
  | ext (φ : Heap → Prop)

abbrev Hp := Addr → Option HO
def upd (H : Hp) (a : Addr) (o : HO) : Hp := fun b => if b = a then some o else H b
theorem upd_same {H : Hp} {a : Addr} {o : HO} : upd H a o a = some o := by unfold upd; rw [if_pos rfl]
theorem upd_ne {H : Hp} {a b : Addr} {o : HO} (h : b ≠ a) : upd H a o b = H b := by unfold upd; rw [if_neg h]
theorem upd_upd {H : Hp} {a : Addr} {o u : HO} : upd (upd H a o) a u = upd H a u := by
  funext b; unfold upd; split <;> rfl
theorem ne_of {H : Hp} {a b : Addr} {o u : HO} (h : H a = some o) (h' : H b = some u) (d : o ≠ u) : a ≠ b := by
  intro e; subst e; rw [h] at h'; exact d (Option.some.inj h')
theorem ne_of_none {H : Hp} {a b : Addr} {o : HO} (h : H a = some o) (h' : H b = none) : a ≠ b := by
  intro e; subst e; rw [h] at h'; cases h'

section
variable (P : Program) (w : World)
def ObjOk (H : Hp) (h : Heap) (a : Addr) : HO → Prop
  | .lst xs => xs.length ≤ sizeLine ∧ ∃ (its : List Value) (n : Nat), Vals xs its ∧ h.get? a = some { cls := .type "list", data := .seq its.toArray n }
  | .tup xs => xs.length ≤ sizeLine ∧ ∃ its : List Value, Vals xs its ∧ IsTup h a its.toArray
  | .dK kvs => kvs.length ≤ sizeLine ∧ (a == sysModules) = false ∧ ∃ vs, KV kvs vs ∧ h.DictOf (mixKind P w) a vs
  | .dT kvs => kvs.length ≤ sizeLine ∧ (a == sysModules) = false ∧ ∃ xs : List (List Key × Addr × Value),
      Paired (fun (p : List Key × V) (q : List Key × Addr × Value) => p.1 = q.1 ∧ H q.2.1 = some (.tup (p.1.map kV)) ∧ RelV p.2 q.2.2) kvs xs ∧
      ∃ o es ep, h.get? a = some o ∧ o.ExactDict ∧ o.data = .dict es ep ∧ es.toList = xs.map (entryOfKey (tupleKind (mixKind P w))) ∧ (xs.map (·.1)).Nodup
  | .set S n => h.SetOf (intKind P w) a S n
  | .ins C dx fs => H dx = some (.own a) ∧ fs.length ≤ 1000 ∧ dx ≠ a ∧ h.get? a = some (PySem.W.instObj C dx) ∧
      ∃ mA, h.Ns1 dx mA ∧ (∀ f, RelO (fs.lookup f) (mA f)) ∧ PySem.Within mA (fs.map (·.1))
  | .own _ => ∃ o, h.get? a = some o
  | .xd fs => ∃ mA, h.Ns1 a mA ∧ ∀ f, RelO (fs.lookup f) (mA f)
  | .rng lo hi => ∃ t u v, h.get? a = some { cls := .type "range", data := .fields #[.int lo t, .int hi u, .int 1 v] }
  | .frz o u => h.get? a = some o ∧ ObjOk H h a u
  | .tbl ps => h.get? a = some { cls := .none, data := .fields ps }
  | .met f x => h.get? a = some (PySem.W.methodObj (.ref f) (.ref x))
  | .ext φ => φ h ∧ (∃ o, h.get? a = some o) ∧ ∀ h1 h2 : Heap, φ h1 → (∀ o, h1.get? a = some o → h2.get? a = some o) → φ h2
def HOk (H : Hp) (h : Heap) : Prop := ∀ a o, H a = some o → ObjOk P w H h a o
end

section
variable {P : Program} {w : World} {H H' : Hp} {h h' : Heap} {a : Addr} {o : HO}
theorem ObjOk.lt (x : ObjOk P w H h a o) : a < h.objs.size := by
  cases o with
  | lst xs => obtain ⟨_, _, _, _, e⟩ := x; exact Heap.lt_size e
  | tup xs => obtain ⟨_, _, _, p⟩ := x; exact p.lt
  | dK kvs => obtain ⟨_, _, _, _, o, _, _, e, _⟩ := x; exact Heap.lt_size e
  | dT kvs => obtain ⟨_, _, _, _, o, _, _, e, _⟩ := x; exact Heap.lt_size e
  | set S n => obtain ⟨o, _, _, _, e, _⟩ := x; exact Heap.lt_size e
  | ins C dx fs => obtain ⟨_, _, _, e, _⟩ := x; exact Heap.lt_size e
  | own y => obtain ⟨_, e⟩ := x; exact Heap.lt_size e
  | xd fs => obtain ⟨_, ⟨_, _, _, e, _⟩, _⟩ := x; exact Heap.lt_size e
  | rng lo hi => obtain ⟨_, _, _, e⟩ := x; exact Heap.lt_size e
  | frz ob u => obtain ⟨e, _⟩ := x; exact Heap.lt_size e
  | tbl ps => exact Heap.lt_size (show h.get? a = some _ from x)
  | met f y => exact Heap.lt_size (show h.get? a = some _ from x)
  | ext φ => obtain ⟨_, ⟨_, e⟩, _⟩ := x; exact Heap.lt_size e
theorem Paired.mapP {α β : Type} {F G : α → β → Prop} : ∀ {l₁ : List α} {l₂ : List β}, Paired F l₁ l₂ → (∀ a b, F a b → G a b) → Paired G l₁ l₂
  | _, _, .nil, _ => .nil
  | _, _, .cons r t, f => .cons (f _ _ r) (Paired.mapP t f)
theorem Paired.imp' {α β : Type} {F G : α → β → Prop} (f : ∀ a b, F a b → G a b) {l₁ : List α} {l₂ : List β} (r : Paired F l₁ l₂) : Paired G l₁ l₂ := Paired.mapP r f
theorem ObjOk.stay (x : ObjOk P w H h a o) (k : ∀ b u, (b = a ∨ H b = some (.own a)) → h.get? b = some u → h'.get? b = some u)
    (ho : ∀ b, H b = some (.own a) → H' b = some (.own a)) (ht : ∀ b xs, H b = some (.tup xs) → H' b = some (.tup xs)) : ObjOk P w H' h' a o := by
  induction o with
  | lst xs => obtain ⟨z, its, n, r, e⟩ := x; exact ⟨z, its, n, r, k _ _ (.inl rfl) e⟩
  | tup xs => obtain ⟨z, its, r, ob, e, c⟩ := x; exact ⟨z, its, r, ob, k _ _ (.inl rfl) e, c⟩
  | dK kvs => obtain ⟨z, y, vs, r, ob, es, ep, e, c⟩ := x; exact ⟨z, y, vs, r, ob, es, ep, k _ _ (.inl rfl) e, c⟩
  | dT kvs =>
    obtain ⟨z, y, xs, r, ob, es, ep, e, c⟩ := x
    exact ⟨z, y, xs, Paired.mapP r fun p q z => ⟨z.1, ht _ _ z.2.1, z.2.2⟩, ob, es, ep, k _ _ (.inl rfl) e, c⟩
  | set S n => obtain ⟨ob, es, ep, t, e, c⟩ := x; exact ⟨ob, es, ep, t, k _ _ (.inl rfl) e, c⟩
  | ins C dx fs =>
    obtain ⟨d, z, ne, e, mA, ⟨od, es, ep, e2, c⟩, r⟩ := x
    exact ⟨ho _ d, z, ne, k _ _ (.inl rfl) e, mA, ⟨od, es, ep, k _ _ (.inr d) e2, c⟩, r⟩
  | own y => obtain ⟨ob, e⟩ := x; exact ⟨ob, k _ _ (.inl rfl) e⟩
  | xd fs => obtain ⟨mA, ⟨od, es, ep, e, c⟩, r⟩ := x; exact ⟨mA, ⟨od, es, ep, k _ _ (.inl rfl) e, c⟩, r⟩
  | rng lo hi => obtain ⟨t, u, v, e⟩ := x; exact ⟨t, u, v, k _ _ (.inl rfl) e⟩
  | frz ob u ih => obtain ⟨e, q⟩ := x; exact ⟨k _ _ (.inl rfl) e, ih q⟩
  | tbl ps =>
    have e : h.get? a = some { cls := .none, data := .fields ps } := x
    show h'.get? a = some { cls := .none, data := .fields ps }
    exact k a _ (.inl rfl) e
  | met f y =>
    have e : h.get? a = some (PySem.W.methodObj (.ref f) (.ref y)) := x
    show h'.get? a = some (PySem.W.methodObj (.ref f) (.ref y))
    exact k a _ (.inl rfl) e
  | ext φ => obtain ⟨p, ⟨o, e⟩, st⟩ := x; exact ⟨st _ _ p fun o q => k _ _ (.inl rfl) q, ⟨o, k _ _ (.inl rfl) e⟩, st⟩
theorem HOk.lt (x : HOk P w H h) (e : H a = some o) : a < h.objs.size := (x a o e).lt
theorem HOk.fresh (x : HOk P w H h) (e : h.objs.size ≤ a) : H a = none := by
  cases q : H a with
  | none => rfl
  | some u => exact absurd (Nat.lt_of_lt_of_le (x.lt q) e) (Nat.lt_irrefl _)
theorem HOk.kept (x : HOk P w H h) (k : ∀ b u, h.get? b = some u → h'.get? b = some u) : HOk P w H h' := fun a o e =>
  (x a o e).stay (fun b u _ q => k b u q) (fun _ q => q) fun _ _ q => q
theorem HOk.laid (x : HOk P w H h) (k : ∀ b u, h.get? b = some u → h'.get? b = some u) (hp : h.objs.size ≤ a) (new : ObjOk P w (upd H a o) h' a o) : HOk P w (upd H a o) h' := fun b u e => by
  have hn := x.fresh hp
  by_cases hb : b = a
  · subst hb; rw [upd_same] at e; cases e; exact new
  · rw [upd_ne hb] at e
    exact (x b u e).stay (fun c v _ q => k c v q) (fun c q => by rw [upd_ne (ne_of_none q hn)]; exact q) fun c xs q => by rw [upd_ne (ne_of_none q hn)]; exact q
end

def Rd (H : Hp) (a : Addr) (u : HO) : Prop := H a = some u ∨ ∃ o, H a = some (.frz o u)
theorem Rd.of {H : Hp} {a : Addr} {u : HO} (h : H a = some u) : Rd H a u := .inl h
theorem Rd.ok {P : Program} {w : World} {H : Hp} {h : Heap} {a : Addr} {u : HO} (r : Rd H a u) (x : HOk P w H h) : ObjOk P w H h a u := by
  rcases r with r | ⟨o, r⟩
  · exact x a u r
  · obtain ⟨_, q⟩ := x a _ r
    exact q
def Mut : Option HO → Prop
  | some (.lst _) => True
  | some (.dK _) => True
  | some (.dT _) => True
  | some (.set _ _) => True
  | some (.ins _ _ _) => True
  | some (.ext _) => True
  | _ => False
section
variable {P : Program} {w : World} {H : Hp} {h h' : Heap} {x e : Addr} {o' : HO}
theorem HOk.write (ok : HOk P w H h) (mu : Mut (H x)) (he : e = x ∨ H e = some (.own x)) (k : ∀ b u, b ≠ e → h.get? b = some u → h'.get? b = some u) (heo : ∃ u, h'.get? e = some u)
    (new : ObjOk P w (upd H x o') h' x o') : HOk P w (upd H x o') h' := fun b u q => by
  have nown : ∀ c y, H c = some (.own y) → c ≠ x := fun c y r z => by subst z; rw [r] at mu; exact mu
  have ntup : ∀ c xs, H c = some (.tup xs) → c ≠ x := fun c xs r z => by subst z; rw [r] at mu; exact mu
  by_cases hb : b = x
  · subst hb; rw [upd_same] at q; cases q; exact new
  · rw [upd_ne hb] at q
    by_cases hbe : b = e
    · have q' : H b = some (.own x) := by
        rcases he with z | z
        · exact absurd (hbe.trans z) hb
        · rw [hbe]; exact z
      rw [q] at q'; cases q'
      obtain ⟨v, hv⟩ := heo
      exact ⟨v, by rw [hbe]; exact hv⟩
    · refine (ok b u q).stay (fun c v hc r => k c v ?_ r) (fun c r => by rw [upd_ne (nown c b r)]; exact r) fun c xs r => by rw [upd_ne (ntup c xs r)]; exact r
      rcases hc with rfl | hc
      · exact hbe
      · rintro rfl
        rcases he with z | z
        · exact nown c b hc z
        · rw [hc] at z; cases z; exact hb rfl
end

structure Un (fs ex : List Addr) (H H' : Hp) (h h' : Heap) : Prop where
  keep : ∀ b o, h.get? b = some o → H b = none → b ∉ fs → b ∉ ex → h'.get? b = some o
  slot : ∀ b o, h.get? b = some o → H b = none → b ∈ fs → b ∉ ex → ∃ sl, h'.get? b = some { o with slots := sl }
  free : ∀ b o, h.get? b = some o → H b = none → b ∉ ex → H' b = none
  there : ∀ b o, h.get? b = some o → b ∉ ex → ∃ o', h'.get? b = some o'
  tups : ∀ b xs, H b = some (.tup xs) → H' b = some (.tup xs)
  frzs : ∀ b o u, H b = some (.frz o u) → H' b = some (.frz o u)
  tbls : ∀ b ps, H b = some (.tbl ps) → ∃ more, H' b = some (.tbl (ps ++ more))
section
variable {fs fs' ex ex' : List Addr} {H H1 H2 : Hp} {h h1 h2 h' : Heap} {a x e : Addr} {o : HO}
theorem Un.any (u : Un fs ex H H1 h h1) {b : Addr} {ob : Obj} (q : h.get? b = some ob) (n : H b = none) (hx : b ∉ ex) : ∃ sl, h1.get? b = some { ob with slots := sl } := by
  by_cases hb : b ∈ fs
  · exact u.slot b ob q n hb hx
  · exact ⟨ob.slots, u.keep b ob q n hb hx⟩
theorem Un.trans (a : Un fs ex H H1 h h1) (b : Un fs ex H1 H2 h1 h2) : Un fs ex H H2 h h2 where
  keep := fun c ob q n hc hx => b.keep c ob (a.keep c ob q n hc hx) (a.free c ob q n hx) hc hx
  slot := fun c ob q n hc hx => by
    obtain ⟨sl, e1⟩ := a.slot c ob q n hc hx
    obtain ⟨sl', e2⟩ := b.slot c _ e1 (a.free c ob q n hx) hc hx
    exact ⟨sl', e2⟩
  free := fun c ob q n hx => by
    obtain ⟨o', e1⟩ := a.there c ob q hx
    exact b.free c o' e1 (a.free c ob q n hx) hx
  there := fun c ob q hx => by
    obtain ⟨o', e1⟩ := a.there c ob q hx
    exact b.there c o' e1 hx
  tups := fun c xs q => b.tups c xs (a.tups c xs q)
  frzs := fun c ob xs q => b.frzs c ob xs (a.frzs c ob xs q)
  tbls := fun c ps q => by
    obtain ⟨m1, e1⟩ := a.tbls c ps q
    obtain ⟨m2, e2⟩ := b.tbls c _ e1
    exact ⟨m1 ++ m2, by rw [e2, Array.append_assoc]⟩
theorem Un.kept (k : ∀ b u, h.get? b = some u → h'.get? b = some u) : Un fs ex H H h h' :=
  ⟨fun b ob q _ _ _ => k b ob q, fun b ob q _ _ _ => ⟨ob.slots, k b ob q⟩, fun _ _ _ n _ => n, fun b ob q _ => ⟨ob, k b ob q⟩, fun _ _ q => q, fun _ _ _ q => q, fun _ ps q => ⟨#[], by rw [q]; simp⟩⟩
theorem Un.refl : Un fs ex H H h h := Un.kept fun _ _ q => q
theorem Un.laid (k : ∀ b u, h.get? b = some u → h'.get? b = some u) (hp : h.objs.size ≤ a) (hn : H a = none) : Un fs ex H (upd H a o) h h' where
  keep := fun b u q _ _ _ => k b u q
  slot := fun b u q _ _ _ => ⟨u.slots, k b u q⟩
  free := fun b u q n _ => by rw [upd_ne (Nat.ne_of_lt (Nat.lt_of_lt_of_le (Heap.lt_size q) hp))]; exact n
  there := fun b u q _ => ⟨u, k b u q⟩
  tups := fun b xs q => by rw [upd_ne (ne_of_none q hn)]; exact q
  frzs := fun b u xs q => by rw [upd_ne (ne_of_none q hn)]; exact q
  tbls := fun b ps q => ⟨#[], by rw [upd_ne (ne_of_none q hn), q]; simp⟩
theorem Un.write (mu : Mut (H x)) (he : e = x ∨ H e = some (.own x)) (k : ∀ b u, b ≠ e → h.get? b = some u → h'.get? b = some u) (heo : ∃ u, h'.get? e = some u) : Un fs ex H (upd H x o) h h' := by
  have hx : ∀ b, H b = none → b ≠ x := fun b n z => by subst z; rw [n] at mu; exact mu
  have hb : ∀ b, H b = none → b ≠ e := fun b n z => by
    subst z
    rcases he with r | r
    · exact hx b n r
    · rw [n] at r; cases r
  have hm : ∀ b u, H b = some u → ¬ Mut (some u) → b ≠ x := fun b u q nm z => by subst z; rw [q] at mu; exact nm mu
  refine ⟨fun b u q n _ _ => k b u (hb b n) q, fun b u q n _ _ => ⟨u.slots, k b u (hb b n) q⟩, fun b u q n _ => by rw [upd_ne (hx b n)]; exact n, fun b u q _ => ?_,
    fun b xs q => by rw [upd_ne (hm b _ q fun z => z)]; exact q, fun b u xs q => by rw [upd_ne (hm b _ q fun z => z)]; exact q, fun b ps q => ⟨#[], by rw [upd_ne (hm b _ q fun z => z), q]; simp⟩⟩
  by_cases hbe : b = e
  · subst hbe; exact heo
  · exact ⟨u, k b u hbe q⟩
theorem Un.mono (u : Un fs ex H H1 h h1) (hs : ∀ b ∈ fs, b ∈ fs') (hx : ∀ b ∈ ex, b ∈ ex') : Un fs' ex' H H1 h h1 :=
  ⟨fun b ob q n hb he => u.keep b ob q n (fun z => hb (hs b z)) fun z => he (hx b z), fun _ _ q n _ he => u.any q n fun z => he (hx _ z), fun b ob q n he => u.free b ob q n fun z => he (hx b z), fun b ob q he => u.there b ob q fun z => he (hx b z), u.tups, u.frzs, u.tbls⟩
end

def trk (h : Heap) (H : Hp) : List Addr := (List.range h.objs.size).filter fun a => (H a).isSome
def hidT (h : Heap) (H : Hp) : Heap := PySem.W.hideAll h (trk h H)
theorem hidT_size (h : Heap) (H : Hp) : (hidT h H).objs.size = h.objs.size := PySem.W.hideAll_size _ _
theorem hidT_get {h : Heap} {H : Hp} {b : Addr} {o : Obj} (e : h.get? b = some o) (n : H b = none) : (hidT h H).get? b = some o :=
  PySem.W.hideAll_get _ e fun hm => by
    have q : (H b).isSome = true := (List.mem_filter.mp hm).2
    rw [n] at q; simp at q
theorem of_hidT {h : Heap} {H : Hp} {b : Addr} {o : Obj} (e : (hidT h H).get? b = some o) : h.get? b = some o ∧ H b = none := by
  have e' : h.get? b = some o := PySem.W.of_hideAll (trk h H) e
  refine ⟨e', ?_⟩
  cases q : H b with
  | none => rfl
  | some x =>
    have hm : b ∈ trk h H := List.mem_filter.mpr ⟨List.mem_range.mpr (Heap.lt_size e'), by simp [q]⟩
    have z : (hidT h H).get? b = none := PySem.W.hideAll_none (trk h H) hm
    rw [z] at e; cases e

def allNews (g h : Heap) (L : Addr) : List (Addr × Obj) := (List.range h.objs.size).filterMap fun a => if a = L ∨ (g.get? a).isSome = true then none else (h.get? a).map fun o => (a, o)
theorem mem_allNews {g h : Heap} {L a : Addr} {o : Obj} (h1 : a ≠ L) (h2 : g.get? a = none) (h3 : h.get? a = some o) : (a, o) ∈ allNews g h L :=
  List.mem_filterMap.mpr ⟨a, List.mem_range.mpr (Heap.lt_size h3), by simp [h1, h2, h3]⟩
theorem of_mem_allNews {g h : Heap} {L : Addr} {p : Addr × Obj} (hp : p ∈ allNews g h L) : p.1 ≠ L ∧ g.get? p.1 = none ∧ h.get? p.1 = some p.2 := by
  obtain ⟨b, _, e⟩ := List.mem_filterMap.mp hp
  split at e
  · cases e
  · rename_i hn
    cases q : h.get? b with
    | none => rw [q] at e; simp at e
    | some u =>
      rw [q] at e
      simp only [Option.map_some, Option.some.injEq] at e
      subst e
      refine ⟨fun z => hn (.inl z), ?_, q⟩
      show g.get? b = none
      cases r : g.get? b with
      | none => rfl
      | some v => exact (hn (.inr (by simp [r]))).elim
def rest (g h : Heap) (L d : Addr) : List (Addr × Obj) := (allNews g h L).filter fun p => decide (p.1 ≠ d)
theorem rest_ne {g h : Heap} {L d : Addr} : ∀ p ∈ rest g h L d, p.1 ≠ d := fun p hp => of_decide_eq_true (List.mem_filter.mp hp).2
theorem mem_rest {g h : Heap} {L d a : Addr} {o : Obj} (h1 : a ≠ L) (h2 : g.get? a = none) (h3 : h.get? a = some o) (h4 : a ≠ d) : (a, o) ∈ rest g h L d :=
  List.mem_filter.mpr ⟨mem_allNews h1 h2 h3, decide_eq_true h4⟩
theorem news_all {g h : Heap} {L : Addr} : News g L h (allNews g h L) := fun p hp => let ⟨a, b, c⟩ := of_mem_allNews hp; ⟨c, a, b⟩
theorem news_at {g h : Heap} {L d : Addr} {o : Obj} (h1 : d ≠ L) (h2 : g.get? d = none) (h3 : h.get? d = some o) : News g L h ((d, o) :: rest g h L d) := fun p hp => by
  rcases List.mem_cons.mp hp with rfl | hp
  · exact ⟨h3, h1, h2⟩
  · exact news_all p (List.mem_filter.mp hp).1
theorem kept_of_news {g h h' : Heap} {L d : Addr} {m : Str → Option Value} (k : ∀ b o, g.get? b = some o → h.get? b = some o) (F : Fr g L h' m) (N : News g L h' (rest g h L d)) :
    ∀ b o, b ≠ L → b ≠ d → h.get? b = some o → h'.get? b = some o := fun b o h1 h2 e => by
  cases q : g.get? b with
  | some u =>
    have := k b u q
    rw [e] at this; cases this
    exact F.keep b _ q
  | none => exact (N (b, o) (mem_rest h1 q e h2)).1
end L2

namespace L2
open PySem PySem.Spec PyProof.Rows

structure Mod (K : PySem.W.Frag) (mg : Str → Option Value) (base : Heap) : Prop where
  kin : K.In base
  glob : base.Ns mainGlobals mg
  blt : ∃ mb, base.Ns builtinsNs mb ∧ ∀ x : Str, x ≠ "__name__" → mb x = bootBuiltins x
  nolimit : base.NoLimit

structure Cx where
  prog : Program
  w : World
  K : PySem.W.Frag
  mg : Str → Option Value
  base : Heap
  A : Around
  N : List Str
  s₀ : Shared
  H₀ : Hp
  env : Env
  outer : List Env
  stack : List Env
  ex : List Addr
  fn : Str → Bool
  calm : Bool
  pn : List (Addr × Obj)
  xe : Value → Shared → Prop
def frs (l : List Env) : List Addr := l.filterMap (·.frame)
abbrev Cx.fs (X : Cx) : List Addr := frs X.outer

def Vis (sc : Scope) (x : Str) : Prop := sc.names.lookup x = some .local ∨ sc.names.lookup x = some .cell ∨ sc.names.lookup x = some .free
def Loc (sc : Scope) (x : Str) : Prop := sc.names.lookup x = some .local ∨ sc.names.lookup x = some .cell
def Look (env : Env) (h : Heap) (m : Str → Option Value) (x : Str) (u : Value) : Prop :=
  (env.kindOf x = some .local ∧ m x = some u) ∨ ((env.kindOf x = some .cell ∨ env.kindOf x = some .free) ∧ ∃ c, env.cells.lookup x = some c ∧ h.IsCell c (some u))

structure Cx.Ok (X : Cx) : Prop where
  mod : Mod X.K X.mg X.base
  kind : X.env.scope.kind = .function
  glob : X.env.globals = mainGlobals
  blt : X.env.builtins = builtinsNs
  above : X.s₀.heap.objs.size ≤ X.env.locals
  inj : ∀ x y c, X.env.cells.lookup x = some c → X.env.cells.lookup y = some c → x = y
  has : ∀ x, (X.env.kindOf x = some .cell ∨ X.env.kindOf x = some .free) → ∃ c, X.env.cells.lookup x = some c
  cab : ∀ x c, X.fn x = true → X.env.cells.lookup x = some c → X.s₀.heap.objs.size ≤ c
  hd : X.calm = true → X.A.handled = none
  frames : X.A.frames = some X.stack
  stk : X.stack = X.outer ∨ (X.stack = X.env :: X.outer ∧ X.env.frame = some X.env.locals)
  exf : ∀ b ∈ X.ex, b ≠ X.env.locals ∧ ∀ x c, X.env.cells.lookup x = some c → c ≠ b
  bs : ∀ b o, X.base.get? b = some o → X.s₀.heap.get? b = some o ∧ X.H₀ b = none
  bsz : X.base.objs.size ≤ X.s₀.heap.objs.size
  noex : ∀ b o, X.base.get? b = some o → b ∉ X.ex
  exfs : ∀ b ∈ X.ex, b ∉ X.fs
  funs : X.s₀.heap.FunFrames X.base X.outer
  frf : ∀ b ∈ X.fs, X.H₀ b = none

structure Inv (X : Cx) (pins : List (Addr × Obj)) (σ : List (Option V)) (H : Hp) (s : Shared) : Prop where
  ok : X.Ok
  os : s.os = X.s₀.os
  bare : AllBare s.gens
  base : Un X.fs X.ex X.H₀ H X.s₀.heap s.heap
  loc : ∃ m, s.heap.Ns X.env.locals m ∧ ∀ (i : Nat) (x : Str) (v : V), X.N[i]? = some x → σ[i]? = some (some v) → Vis X.env.scope x → ∃ u, RelV v u ∧ Look X.env s.heap m x u
  cell : ∀ x c, X.env.cells.lookup x = some c → ∃ v, s.heap.IsCell c v
  free : H X.env.locals = none
  freeC : ∀ x c, X.env.cells.lookup x = some c → H c = none
  pin : ∀ p ∈ X.pn ++ pins, s.heap.get? p.1 = some p.2 ∧ H p.1 = none ∧ p.1 ≠ X.env.locals ∧ p.1 ∉ X.fs ∧ ∀ v, p.2.data ≠ .cell v
  hok : HOk X.prog X.w H s.heap
  len : σ.length = X.N.length

section
variable {X : Cx} {pins : List (Addr × Obj)} {σ : List (Option V)} {H H' : Hp} {s : Shared} {h' : Heap}

theorem Cx.Ok.nofr (ok : X.Ok) {b : Addr} {o : Obj} (e : X.base.get? b = some o) : b ∉ X.fs := fun hb => by
  have := (ok.funs.mem hb).1
  rw [e] at this; cases this
theorem Inv.bs (I : Inv X pins σ H s) : ∀ b o, X.base.get? b = some o → s.heap.get? b = some o ∧ H b = none := fun b o e =>
  ⟨I.base.keep b o (I.ok.bs b o e).1 (I.ok.bs b o e).2 (I.ok.nofr e) (I.ok.noex b o e), I.base.free b o (I.ok.bs b o e).1 (I.ok.bs b o e).2 (I.ok.noex b o e)⟩
theorem Inv.bk (I : Inv X pins σ H s) : ∀ b o, X.base.get? b = some o → s.heap.get? b = some o := fun b o e => (I.bs b o e).1
theorem Inv.mod (I : Inv X pins σ H s) : Mod X.K X.mg X.base := I.ok.mod
theorem Inv.kIn (I : Inv X pins σ H s) : X.K.In s.heap := I.ok.mod.kin.keeps I.bk
theorem Inv.nolimit (I : Inv X pins σ H s) : s.heap.NoLimit := I.ok.mod.nolimit.keeps I.bk
theorem Inv.fr (I : Inv X pins σ H s) : ∃ m, Fr X.base X.env.locals s.heap m :=
  let ⟨m, hn, _⟩ := I.loc
  ⟨m, hn, I.bk, Nat.le_trans I.ok.bsz I.ok.above⟩
theorem Inv.lt (I : Inv X pins σ H s) : X.env.locals < s.heap.objs.size := let ⟨_, hn, _⟩ := I.loc; hn.lt
theorem Inv.sz (I : Inv X pins σ H s) : X.s₀.heap.objs.size ≤ s.heap.objs.size := Nat.le_trans I.ok.above (Nat.le_of_lt I.lt)
theorem Inv.nofs (I : Inv X pins σ H s) {a : Addr} (h : s.heap.objs.size ≤ a) : a ∉ X.fs := fun hb => by
  obtain ⟨_, o, ho, _⟩ := I.ok.funs.mem hb
  exact absurd (Nat.lt_of_lt_of_le (Heap.lt_size ho) (Nat.le_trans I.sz h)) (Nat.lt_irrefl _)
theorem Inv.cne (I : Inv X pins σ H s) : ∀ x c, X.env.cells.lookup x = some c → c ≠ X.env.locals := fun x c e z => by
  obtain ⟨v, o, ho, hd⟩ := I.cell x c e
  obtain ⟨m, ⟨o', es, ep, ho', hd', _⟩, _⟩ := I.loc
  rw [z, ho'] at ho; cases ho; rw [hd'] at hd; cases hd
theorem Inv.funs (I : Inv X pins σ H s) : s.heap.FunFrames X.base X.outer := by
  have all : ∀ (l : List Env), (∀ b ∈ frs l, b ∈ X.fs) → X.s₀.heap.FunFrames X.base l → s.heap.FunFrames X.base l := by
    intro l
    induction l with
    | nil => intro _ _; trivial
    | cons env r ih =>
      intro hs hl
      obtain ⟨hk, ⟨L, o, hf, hn, ho, hd⟩, hr⟩ := hl
      have hL : L ∈ X.fs := hs L (by unfold frs; rw [List.filterMap_cons, hf]; exact List.mem_cons_self)
      obtain ⟨sl, e⟩ := I.base.slot L o ho (I.ok.frf L hL) hL fun z => I.ok.exfs L z hL
      exact ⟨hk, ⟨L, _, hf, hn, e, hd⟩, ih (fun b hb => hs b (by unfold frs; rw [List.filterMap_cons, hf]; exact List.mem_cons_of_mem _ hb)) hr⟩
  exact all X.outer (fun _ hb => hb) I.ok.funs

theorem Inv.stack (I : Inv X pins σ H s) : s.heap.FunFrames X.base X.stack := by
  rcases I.ok.stk with e | ⟨e, hf⟩
  · rw [e]; exact I.funs
  · rw [e]
    obtain ⟨m, hn, _⟩ := I.loc
    refine .cons (by rw [I.ok.kind]; decide) hf hn ?_ I.funs
    exact Heap.get?_none_of_le (Nat.le_trans I.ok.bsz I.ok.above)
theorem Inv.stkSub (I : Inv X pins σ H s) : ∀ b ∈ frs X.stack, b ∈ X.env.locals :: X.fs := fun b hb => by
  rcases I.ok.stk with e | ⟨e, hf⟩
  · rw [e] at hb; exact List.mem_cons_of_mem _ hb
  · rw [e] at hb
    unfold frs at hb
    rw [List.filterMap_cons, hf] at hb
    exact hb
theorem Inv.stkFree (I : Inv X pins σ H s) : ∀ b ∈ frs X.stack, H b = none := fun b hb => by
  rcases List.mem_cons.mp (I.stkSub b hb) with e | hb
  · rw [e]; exact I.free
  · obtain ⟨_, o, ho, _⟩ := I.ok.funs.mem hb
    exact I.base.free b o ho (I.ok.frf b hb) fun z => I.ok.exfs b z hb

theorem Inv.step {g' : Array GenState} {t' : Nat} {d' : Drawn} {ch : List Addr} (I : Inv X pins σ H s)
    (hch : ∀ b ∈ ch, (b ∈ X.ex ∨ X.s₀.heap.objs.size ≤ b) ∧ b ≠ X.env.locals ∧ (∀ x c, X.env.cells.lookup x = some c → c ≠ b) ∧ ∀ p ∈ X.pn ++ pins, p.1 ≠ b)
    (keep : ∀ b o, b ≠ X.env.locals → b ∉ X.fs → b ∉ ch → s.heap.get? b = some o → H b = none → h'.get? b = some o)
    (slot : ∀ b o, b ≠ X.env.locals → b ∈ X.fs → b ∉ ch → s.heap.get? b = some o → H b = none → ∃ sl, h'.get? b = some { o with slots := sl }) (free : ∀ b o, b ∉ ch → s.heap.get? b = some o → H b = none → H' b = none)
    (there : ∀ b o, b ∉ ch → s.heap.get? b = some o → ∃ o', h'.get? b = some o')
    (tups : ∀ b xs, H b = some (.tup xs) → H' b = some (.tup xs)) (frzs : ∀ b o u, H b = some (.frz o u) → H' b = some (.frz o u)) (tbls : ∀ b ps, H b = some (.tbl ps) → ∃ more, H' b = some (.tbl (ps ++ more)))
    (ns : ∀ m, s.heap.Ns X.env.locals m → h'.Ns X.env.locals m) (hok : HOk X.prog X.w H' h') (hg : AllBare g') :
    Inv X pins σ H' { s with heap := h', gens := g', drawn := d', toks := t' } := by
  have neL : ∀ b o, X.s₀.heap.get? b = some o → b ≠ X.env.locals := fun b o e => Nat.ne_of_lt (Nat.lt_of_lt_of_le (Heap.lt_size e) I.ok.above)
  have neC : ∀ b o, X.s₀.heap.get? b = some o → b ∉ X.ex → b ∉ ch := fun b o e hx hb => by
    rcases (hch b hb).1 with z | z
    · exact hx z
    · exact absurd (Nat.lt_of_lt_of_le (Heap.lt_size e) z) (Nat.lt_irrefl _)
  have cellK : ∀ x c, X.env.cells.lookup x = some c → ∀ v, s.heap.IsCell c v → h'.IsCell c v := fun x c e v ⟨o, ho, hd⟩ => by
    have nch : c ∉ ch := fun z => (hch c z).2.2.1 x c e rfl
    by_cases hc : c ∈ X.fs
    · obtain ⟨sl, q⟩ := slot c o (I.cne x c e) hc nch ho (I.freeC x c e)
      exact ⟨_, q, hd⟩
    · exact ⟨o, keep c o (I.cne x c e) hc nch ho (I.freeC x c e), hd⟩
  refine ⟨I.ok, I.os, hg, ⟨fun b o e n hb hx => ?_, fun b o e n hb hx => ?_, fun b o e n hx => ?_, fun b o e hx => ?_, fun b xs e => tups b xs (I.base.tups b xs e), fun b o xs e => frzs b o xs (I.base.frzs b o xs e), fun b ps e => ?_⟩, ?_, fun x c e => ?_, ?_, fun x c e => ?_, fun p hp => ?_, hok, I.len⟩
  · exact keep b o (neL b o e) hb (neC b o e hx) (I.base.keep b o e n hb hx) (I.base.free b o e n hx)
  · obtain ⟨sl, e1⟩ := I.base.slot b o e n hb hx
    obtain ⟨sl', e2⟩ := slot b _ (neL b o e) hb (neC b o e hx) e1 (I.base.free b o e n hx)
    exact ⟨sl', e2⟩
  · obtain ⟨o', e1⟩ := I.base.there b o e hx
    exact free b o' (neC b o e hx) e1 (I.base.free b o e n hx)
  · obtain ⟨o', e1⟩ := I.base.there b o e hx
    exact there b o' (neC b o e hx) e1
  · obtain ⟨m1, e1⟩ := I.base.tbls b ps e
    obtain ⟨m2, e2⟩ := tbls b _ e1
    exact ⟨m1 ++ m2, by rw [e2, Array.append_assoc]⟩
  · obtain ⟨m, hn, hl⟩ := I.loc
    refine ⟨m, ns m hn, fun i x v e1 e2 e3 => ?_⟩
    obtain ⟨u, r, l⟩ := hl i x v e1 e2 e3
    refine ⟨u, r, ?_⟩
    rcases l with l | ⟨k, c, e, z⟩
    · exact .inl l
    · exact .inr ⟨k, c, e, cellK x c e _ z⟩
  · obtain ⟨v, z⟩ := I.cell x c e
    exact ⟨v, cellK x c e v z⟩
  · obtain ⟨m, ⟨o, _, _, ho, _⟩, _⟩ := I.loc
    exact free _ o (fun z => (hch _ z).2.1 rfl) ho I.free
  · obtain ⟨v, o, ho, hd⟩ := I.cell x c e
    exact free c o (fun z => (hch c z).2.2.1 x c e rfl) ho (I.freeC x c e)
  · obtain ⟨e, n, ne, nf, d⟩ := I.pin p hp
    have nch : p.1 ∉ ch := fun z => (hch p.1 z).2.2.2 p hp rfl
    exact ⟨keep p.1 p.2 ne nf nch e n, free p.1 p.2 nch e n, ne, nf, d⟩
theorem Inv.un {t' : Nat} (I : Inv X pins σ H s) (u : Un X.fs [] H H' s.heap h') (hok : HOk X.prog X.w H' h') : Inv X pins σ H' { s with heap := h', toks := t' } := by
  obtain ⟨m, ⟨o, es, ep, ho, r⟩, _⟩ := id I.loc
  obtain ⟨sl, hL⟩ := u.any ho I.free (by simp)
  exact I.step (g' := s.gens) (d' := s.drawn) (ch := []) (fun _ z => nomatch z) (fun b o _ hb _ e n => u.keep b o e n hb (by simp)) (fun b o _ hb _ e n => u.slot b o e n hb (by simp)) (fun b o _ e n => u.free b o e n (by simp)) (fun b o _ e => u.there b o e (by simp)) u.tups u.frzs u.tbls (fun m' hm => by
    obtain ⟨o', es', ep', ho', r'⟩ := hm
    rw [ho] at ho'; cases ho'
    exact ⟨_, es', ep', hL, r'⟩) hok I.bare
theorem Inv.call {g' : Array GenState} {t' : Nat} {d' : Drawn} {ch : List Addr} (I : Inv X pins σ H s) (u : Un (frs X.stack) ch H H' s.heap h') (hok : HOk X.prog X.w H' h') (hg : AllBare g')
    (hch : ∀ b ∈ ch, (b ∈ X.ex ∨ X.s₀.heap.objs.size ≤ b) ∧ b ≠ X.env.locals ∧ (∀ x c, X.env.cells.lookup x = some c → c ≠ b) ∧ ∀ p ∈ X.pn ++ pins, p.1 ≠ b) :
    Inv X pins σ H' { s with heap := h', gens := g', drawn := d', toks := t' } := by
  obtain ⟨m, ⟨o, es, ep, ho, r⟩, _⟩ := id I.loc
  obtain ⟨sl, hL⟩ := u.any ho I.free fun z => (hch _ z).2.1 rfl
  exact I.step (ch := ch) hch (fun b o hL hb hc e n => u.keep b o e n (fun z => (List.mem_cons.mp (I.stkSub b z)).elim hL hb) hc) (fun b o _ _ hc e n => u.any e n hc) (fun b o hc e n => u.free b o e n hc) (fun b o hc e => u.there b o e hc) u.tups u.frzs u.tbls (fun m' hm => by
    obtain ⟨o', es', ep', ho', r'⟩ := hm
    rw [ho] at ho'; cases ho'
    exact ⟨_, es', ep', hL, r'⟩) hok hg
theorem Inv.turned {t' : Nat} {it : Addr} (I : Inv X pins σ H s) (k : ∀ b o, b ≠ it → s.heap.get? b = some o → h'.get? b = some o) (hn : H it = none) (hL : it ≠ X.env.locals)
    (h1 : it ∈ X.ex ∨ X.s₀.heap.objs.size ≤ it) (h2 : ∀ x c, X.env.cells.lookup x = some c → c ≠ it) (h3 : ∀ p ∈ X.pn ++ pins, p.1 ≠ it) : Inv X pins σ H { s with heap := h', toks := t' } := by
  have nit : ∀ b u, H b = some u → b ≠ it := fun b u e z => by rw [z, hn] at e; cases e
  refine I.step (g' := s.gens) (d' := s.drawn) (ch := [it]) (fun b hb => ?_) (fun b o _ _ hc e _ => k b o (fun z => hc (by simp [z])) e) (fun b o _ _ hc e _ => ⟨o.slots, k b o (fun z => hc (by simp [z])) e⟩) (fun _ _ _ _ n => n)
    (fun b o hc e => ⟨o, k b o (fun z => hc (by simp [z])) e⟩) (fun _ _ e => e) (fun _ _ _ e => e) (fun b ps e => ⟨#[], by rw [e]; simp⟩) (fun m hm => ?_) (fun b u e => ?_) I.bare
  · have e : b = it := by simpa using hb
    subst e
    exact ⟨h1, hL, h2, h3⟩
  · obtain ⟨o, es, ep, ho, r⟩ := hm
    exact ⟨o, es, ep, k _ o (Ne.symm hL) ho, r⟩
  · refine (I.hok b u e).stay (fun c v hc q => k c v ?_ q) (fun _ q => q) fun _ _ q => q
    rcases hc with z | z
    · rw [z]; exact nit b u e
    · exact nit c _ z
theorem Inv.tok (I : Inv X pins σ H s) (t : Nat) : Inv X pins σ H { s with toks := t } := I.un (h' := s.heap) (t' := t) Un.refl I.hok
theorem Inv.kept {t' : Nat} (I : Inv X pins σ H s) (k : ∀ b u, s.heap.get? b = some u → h'.get? b = some u) : Inv X pins σ H { s with heap := h', toks := t' } := I.un (Un.kept k) (I.hok.kept k)
theorem Inv.laid {a : Addr} {o : HO} {t' : Nat} (I : Inv X pins σ H s) (k : ∀ b u, s.heap.get? b = some u → h'.get? b = some u) (hp : s.heap.objs.size ≤ a) (new : ObjOk X.prog X.w (upd H a o) h' a o) :
    Inv X pins σ (upd H a o) { s with heap := h', toks := t' } := I.un (Un.laid k hp (I.hok.fresh hp)) (I.hok.laid k hp new)
theorem Inv.write {x e : Addr} {o : HO} {t' : Nat} (I : Inv X pins σ H s) (mu : Mut (H x)) (he : e = x ∨ H e = some (.own x)) (k : ∀ b u, b ≠ e → s.heap.get? b = some u → h'.get? b = some u) (heo : ∃ u, h'.get? e = some u)
    (new : ObjOk X.prog X.w (upd H x o) h' x o) : Inv X pins σ (upd H x o) { s with heap := h', toks := t' } := I.un (Un.write mu he k heo) (I.hok.write mu he k heo new)
theorem Inv.weak {σ' : List (Option V)} (I : Inv X pins σ H s) (hl : σ'.length = σ.length) (w : ∀ (i : Nat) v, σ'[i]? = some (some v) → σ[i]? = some (some v)) : Inv X pins σ' H s :=
  ⟨I.ok, I.os, I.bare, I.base, let ⟨m, hn, hl'⟩ := I.loc; ⟨m, hn, fun i x v e1 e2 e3 => hl' i x v e1 (w i v e2) e3⟩, I.cell, I.free, I.freeC, I.pin, I.hok, hl.trans I.len⟩
theorem Inv.pins_of {pins' : List (Addr × Obj)} (I : Inv X pins σ H s) (h : ∀ p ∈ pins', s.heap.get? p.1 = some p.2 ∧ H p.1 = none ∧ p.1 ≠ X.env.locals ∧ p.1 ∉ X.fs ∧ ∀ v, p.2.data ≠ .cell v) : Inv X pins' σ H s :=
  ⟨I.ok, I.os, I.bare, I.base, I.loc, I.cell, I.free, I.freeC, fun p hp => (List.mem_append.mp hp).elim (fun z => I.pin p (List.mem_append_left _ z)) (h p), I.hok, I.len⟩

theorem nodup_ix {N : List Str} (hN : N.Nodup) {i j : Nat} {x : Str} (a : N[i]? = some x) (b : N[j]? = some x) : i = j := by
  obtain ⟨h1, e1⟩ := List.getElem?_eq_some_iff.mp a
  obtain ⟨h2, e2⟩ := List.getElem?_eq_some_iff.mp b
  exact (List.getElem_inj hN).mp (e1.trans e2.symm)

theorem store_ok2 {M : Model} {A : Around} {E : Value → Shared → Prop} {i : Nat} {x : Str} {v : V} {u : Value} {Q : Unit → Shared → Prop} (I : Inv X pins σ H s) (hN : X.N.Nodup) (hi : X.N[i]? = some x) (hx : Loc X.env.scope x) (r : RelV v u)
    (h : ∀ s', Inv X pins (σ.set i (some v)) H s' → (∃ a, Heap.SameBut a s.heap s'.heap ∧ (a = X.env.locals ∨ X.env.cells.lookup x = some a)) → Q () s') (hf : X.fn x = true ∨ X.env.scope.names.lookup x = some .local := by first | exact .inl rfl | exact .inr rfl | assumption) : wpAny M A (storeName X.env x u) Q E s := by
  obtain ⟨m, hn, hl⟩ := id I.loc
  have hcls : (X.env.scope.kind == .class || (X.env.scope.kind == .module && X.env.locals != X.env.globals)) = false := by rw [I.ok.kind]; rfl
  have hiσ : i < σ.length := by rw [I.len]; exact (List.getElem?_eq_some_iff.mp hi).1
  have cne := I.cne
  have tracked : ∀ {a : Addr} {h' : Heap}, (∃ o, s.heap.get? a = some o ∧ H a = none) → Heap.SameBut a s.heap h' → HOk X.prog X.w H h' := fun {a h'} ha hs b ob e => by
    obtain ⟨_, _, hfree⟩ := ha
    refine (I.hok b ob e).stay (fun c w' hc q => (hs.2 c ?_).trans q) (fun _ q => q) fun _ _ q => q
    rintro rfl
    rcases hc with rfl | hc
    · rw [hfree] at e; cases e
    · rw [hfree] at hc; cases hc
  rcases hx with hk | hk
  · refine wpAny_storeName_local hk hn (fun h' hn' hs => ?_) hcls
    obtain ⟨oL, _, _, hoL, _⟩ := id hn
    refine h _ ⟨I.ok, I.os, I.bare, ⟨fun b o e n hb hx => ?_, fun b o e n hb hx => ?_, I.base.free, fun b o e hx => ?_, I.base.tups, I.base.frzs, I.base.tbls⟩, ⟨_, hn', fun j y v' e1 e2 e3 => ?_⟩, fun y c e => ?_, I.free, I.freeC, fun p hp => ?_, tracked ⟨oL, hoL, I.free⟩ hs, by simpa using I.len⟩ ⟨_, hs, .inl rfl⟩
    · exact (hs.2 b (Nat.ne_of_lt (Nat.lt_of_lt_of_le (Heap.lt_size e) I.ok.above))).trans (I.base.keep b o e n hb hx)
    · obtain ⟨sl, e1⟩ := I.base.slot b o e n hb hx
      exact ⟨sl, (hs.2 b (Nat.ne_of_lt (Nat.lt_of_lt_of_le (Heap.lt_size e) I.ok.above))).trans e1⟩
    · obtain ⟨o', e1⟩ := I.base.there b o e hx
      exact ⟨o', (hs.2 b (Nat.ne_of_lt (Nat.lt_of_lt_of_le (Heap.lt_size e) I.ok.above))).trans e1⟩
    · by_cases hj : j = i
      · subst hj
        rw [hi] at e1; cases e1
        rw [List.getElem?_set_self hiσ] at e2
        cases e2
        exact ⟨u, r, .inl ⟨hk, by simp⟩⟩
      · rw [List.getElem?_set_ne (Ne.symm hj)] at e2
        obtain ⟨u', r', q⟩ := hl j y v' e1 e2 e3
        refine ⟨u', r', ?_⟩
        rcases q with ⟨k, e⟩ | ⟨k, c, e, z⟩
        · refine .inl ⟨k, ?_⟩
          have : y ≠ x := fun e => hj (nodup_ix hN e1 (e ▸ hi))
          simp [this, e]
        · exact .inr ⟨k, c, e, z.sameBut hs (cne y c e)⟩
    · obtain ⟨w', z⟩ := I.cell y c e
      exact ⟨w', z.sameBut hs (cne y c e)⟩
    · obtain ⟨e, n, ne, nf, d⟩ := I.pin p hp
      exact ⟨(hs.2 p.1 ne).trans e, n, ne, nf, d⟩
  · have hfn : X.fn x = true := by
      rcases hf with z | z
      · exact z
      · rw [z] at hk; cases hk
    obtain ⟨c, hc⟩ := I.ok.has x (.inl hk)
    obtain ⟨w', z⟩ := I.cell x c hc
    refine wpAny_storeName_cell I.ok.kind hk hc z (fun h' hc' hs => ?_)
    obtain ⟨oc, hoc, hocd⟩ := id z
    refine h { s with heap := h' } ⟨I.ok, I.os, I.bare, ⟨fun b o e n hb hx => ?_, fun b o e n hb hx => ?_, I.base.free, fun b o e hx => ?_, I.base.tups, I.base.frzs, I.base.tbls⟩, ⟨m, hn.sameBut hs (Ne.symm (cne x c hc)), fun j y v' e1 e2 e3 => ?_⟩, fun y c' e => ?_, I.free, I.freeC, fun p hp => ?_, tracked ⟨oc, hoc, I.freeC x c hc⟩ hs, by simpa using I.len⟩ ⟨c, hs, .inr hc⟩
    · exact (hs.2 b (Nat.ne_of_lt (Nat.lt_of_lt_of_le (Heap.lt_size e) (I.ok.cab x c hfn hc)))).trans (I.base.keep b o e n hb hx)
    · obtain ⟨sl, e1⟩ := I.base.slot b o e n hb hx
      exact ⟨sl, (hs.2 b (Nat.ne_of_lt (Nat.lt_of_lt_of_le (Heap.lt_size e) (I.ok.cab x c hfn hc)))).trans e1⟩
    · obtain ⟨o', e1⟩ := I.base.there b o e hx
      exact ⟨o', (hs.2 b (Nat.ne_of_lt (Nat.lt_of_lt_of_le (Heap.lt_size e) (I.ok.cab x c hfn hc)))).trans e1⟩
    · by_cases hj : j = i
      · subst hj
        rw [hi] at e1; cases e1
        rw [List.getElem?_set_self hiσ] at e2
        cases e2
        exact ⟨u, r, .inr ⟨.inl hk, c, hc, hc'⟩⟩
      · rw [List.getElem?_set_ne (Ne.symm hj)] at e2
        obtain ⟨u', r', q⟩ := hl j y v' e1 e2 e3
        refine ⟨u', r', ?_⟩
        rcases q with q | ⟨k, c', e, z'⟩
        · exact .inl q
        · refine .inr ⟨k, c', e, z'.sameBut hs ?_⟩
          rintro rfl
          exact hj (nodup_ix hN e1 (I.ok.inj _ _ _ e hc ▸ hi))
    · by_cases hcc : c' = c
      · subst hcc; exact ⟨_, hc'⟩
      · obtain ⟨w2, z2⟩ := I.cell y c' e
        exact ⟨w2, z2.sameBut hs hcc⟩
    · obtain ⟨e, n, ne, nf, d⟩ := I.pin p hp
      refine ⟨(hs.2 p.1 ?_).trans e, n, ne, nf, d⟩
      intro q
      rw [q, hoc] at e
      have q' : oc = p.2 := Option.some.inj e
      exact d w' (by rw [← q']; exact hocd)
theorem store_ok {M : Model} {A : Around} {E : Value → Shared → Prop} {i : Nat} {x : Str} {v : V} {u : Value} {Q : Unit → Shared → Prop} (I : Inv X pins σ H s) (hN : X.N.Nodup) (hi : X.N[i]? = some x) (hx : Loc X.env.scope x) (r : RelV v u)
    (h : ∀ s', Inv X pins (σ.set i (some v)) H s' → Q () s') (hf : X.fn x = true ∨ X.env.scope.names.lookup x = some .local := by first | exact .inl rfl | exact .inr rfl | assumption) : wpAny M A (storeName X.env x u) Q E s :=
  store_ok2 I hN hi hx r (fun s' I' _ => h s' I') hf
theorem Inv.call' {s' : Shared} {ch : List Addr} (I : Inv X pins σ H s) (ho : s'.os = s.os) (u : Un (frs X.stack) ch H H' s.heap s'.heap) (hok : HOk X.prog X.w H' s'.heap) (hg : AllBare s'.gens)
    (hch : ∀ b ∈ ch, (b ∈ X.ex ∨ X.s₀.heap.objs.size ≤ b) ∧ b ≠ X.env.locals ∧ (∀ x c, X.env.cells.lookup x = some c → c ≠ b) ∧ ∀ p ∈ X.pn ++ pins, p.1 ≠ b) : Inv X pins σ H' s' := by
  obtain ⟨h', g', d', t', o'⟩ := s'
  have e : o' = s.os := ho
  subst e
  exact I.call (g' := g') (t' := t') (d' := d') u hok hg hch
end

abbrev XK := Value → Option Addr → Hp → Prop
abbrev St := List (Option V)
abbrev VK := V → Hp → Prop
abbrev TE := St → Hp → VK → Prop
abbrev TT := St → Hp → (Bool → Hp → Prop) → Prop
abbrev TA := St → Hp → (List V → Hp → Prop) → Prop
structure Ends where
  nx : St → Hp → Prop
  rt : VK
  bk : St → Hp → Prop := fun _ _ => False
  ct : St → Hp → Prop := fun _ _ => False
abbrev TS := Ends → St → Hp → Prop

def EP (X : Cx) (pins : List (Addr × Obj)) (σ : St) (Q : VK) (u : Value) (s' : Shared) : Prop := ∃ v H', Inv X pins σ H' s' ∧ RelV v u ∧ Q v H'
def TP (X : Cx) (pins : List (Addr × Obj)) (σ : St) (Q : Bool → Hp → Prop) (b : Bool) (s' : Shared) : Prop := ∃ H', Inv X pins σ H' s' ∧ Q b H'
def AP (X : Cx) (pins : List (Addr × Obj)) (σ : St) (Q : List V → Hp → Prop) (us : List Value) (s' : Shared) : Prop := ∃ vs H', Inv X pins σ H' s' ∧ Vals vs us ∧ Q vs H'
def SP (X : Cx) (pins : List (Addr × Obj)) (D : Ends) (f : Flow) (s' : Shared) : Prop :=
  match f with
  | .next => ∃ σ' H', Inv X pins σ' H' s' ∧ D.nx σ' H'
  | .brk => ∃ σ' H', Inv X pins σ' H' s' ∧ D.bk σ' H'
  | .cont => ∃ σ' H', Inv X pins σ' H' s' ∧ D.ct σ' H'
  | .ret u => ∃ v σ' H', Inv X pins σ' H' s' ∧ RelV v u ∧ D.rt v H'

def PE (X : Cx) (e : Expr) (t : TE) : Prop :=
  ∀ (pins : List (Addr × Obj)) (s : Shared) (σ : St) (H : Hp) (Q : VK), Inv X pins σ H s → t σ H Q → wpAny (model X.prog X.w) X.A (eval e X.env) (EP X pins σ Q) X.xe s
def PT (X : Cx) (e : Expr) (t : TT) : Prop :=
  ∀ (pins : List (Addr × Obj)) (s : Shared) (σ : St) (H : Hp) (Q : Bool → Hp → Prop), Inv X pins σ H s → t σ H Q → wpAny (model X.prog X.w) X.A (isTrue e X.env (eval e X.env)) (TP X pins σ Q) X.xe s
def PW (X : Cx) (e : Expr) (t : TT) : Prop :=
  ∀ (whole : Sem Value) (pins : List (Addr × Obj)) (s : Shared) (σ : St) (H : Hp) (Q : Bool → Hp → Prop), Inv X pins σ H s → t σ H Q → wpAny (model X.prog X.w) X.A (isTrue e X.env whole) (TP X pins σ Q) X.xe s
theorem PW.pt {X : Cx} {e : Expr} {t : TT} (h : PW X e t) : PT X e t := h _
def PA (X : Cx) (es : List Expr) (t : TA) : Prop :=
  ∀ (pos : Pos) (pins : List (Addr × Obj)) (s : Shared) (σ : St) (H : Hp) (Q : List V → Hp → Prop), Inv X pins σ H s → t σ H Q → wpAny (model X.prog X.w) X.A (spliced (backTo pos (starEach es X.env))) (AP X pins σ Q) X.xe s
def PS (X : Cx) (st : Stmt) (t : TS) : Prop :=
  ∀ (pins : List (Addr × Obj)) (s : Shared) (σ : St) (H : Hp) (D : Ends), Inv X pins σ H s → t D σ H → wpAny (model X.prog X.w) X.A (exec st X.env) (SP X pins D) X.xe s
def PSs (X : Cx) (st : List Stmt) (t : TS) : Prop :=
  ∀ (pins : List (Addr × Obj)) (s : Shared) (σ : St) (H : Hp) (D : Ends), Inv X pins σ H s → t D σ H → wpAny (model X.prog X.w) X.A (execs st X.env) (SP X pins D) X.xe s
theorem thn {α : Type} {t : Sem α} {Q Q' : α → Shared → Prop} {M : Model} {A : Around} {E : Value → Shared → Prop} {s : Shared} (h : wpAny M A t Q E s) (hQ : ∀ a s, Q a s → Q' a s) : wpAny M A t Q' E s := wpAny_mono h hQ fun _ _ x => x
end L2

namespace L2
open PySem PySem.Spec PyProof.Rows
section
variable {X : Cx}

theorem bin {a b : Expr} {ta tb : TE} (ha : PE X a ta) (hb : PE X b tb) {pins : List (Addr × Obj)} {s : Shared} {σ : St} {H : Hp} {R : V → V → Hp → Prop} (I : Inv X pins σ H s) (h : ta σ H fun x H1 => tb σ H1 fun y H2 => R x y H2)
    {α : Type} {Q : α → Shared → Prop} {f : Value → Value → Sem α}
    (hf : ∀ v u s2 x y H2, Inv X pins σ H2 s2 → RelV x v → RelV y u → R x y H2 → wpAny (model X.prog X.w) X.A (f v u) Q X.xe s2) :
    wpAny (model X.prog X.w) X.A (eval a X.env) (fun v s₁ => wpAny (model X.prog X.w) X.A (eval b X.env) (fun u s₂ => wpAny (model X.prog X.w) X.A (f v u) Q X.xe s₂) X.xe s₁) X.xe s := by
  refine thn (ha pins s σ H _ I h) fun v s1 ⟨x, H1, I1, r1, q1⟩ => ?_
  refine thn (hb pins s1 σ H1 _ I1 q1) fun u s2 ⟨y, H2, I2, r2, q2⟩ => ?_
  exact hf v u s2 x y H2 I2 r1 r2 q2

def tVar (i : Nat) : TE := fun σ H Q => ∃ v, σ[i]? = some (some v) ∧ Q v H
def tC (v : V) : TE := fun _ H Q => Q v H
theorem pe_var {i : Nat} {x : Str} {pos : Pos} (hN : X.N[i]? = some x) (hv : Vis X.env.scope x) (hd : (x == ("__debug__" : Str)) = false := by decide) (hcd : (x == ("__classdict__" : Str)) = false := by decide) : PE X (.Name x pos) (tVar i) := by
  intro pins s σ H Q I h
  obtain ⟨v, e, h⟩ := h
  obtain ⟨m, hn, hl⟩ := I.loc
  obtain ⟨u, r, l⟩ := hl i x v hN e hv
  have fin : EP X pins σ Q u s := ⟨v, H, I, r, h⟩
  rcases l with ⟨hk, hm⟩ | ⟨hk, c, hc, hcell⟩
  · exact wpAny_Name (wpAny_loadName_local I.ok.kind hk hn hm fin) hd
  · rcases hk with hk | hk
    · exact wpAny_Name (wpAny_loadName_cell I.ok.kind hk hc hcell fin) hd
    · exact wpAny_Name (wpAny_loadName_free I.ok.kind hk hc hcell fin hcd) hd
theorem pe_int {i j pos} : PE X (.Constant (.int i) j pos) (tC (.int i)) := fun _ _ _ H _ I h => wpAny_Constant_int ⟨.int i, H, I.tok _, ⟨_, rfl⟩, h⟩
theorem pe_bl {b j pos} : PE X (.Constant (.bool b) j pos) (tC (.bl b)) := fun _ _ _ H _ I h => Constant_bool ⟨.bl b, H, I, rfl, h⟩
theorem pe_non {j pos} : PE X (.Constant .none j pos) (tC .non) := fun _ _ _ H _ I h => Constant_none ⟨.non, H, I, rfl, h⟩
theorem pe_str {x j pos} : PE X (.Constant (.str x) j pos) (tC (.str x)) := fun _ _ _ H _ I h => Calls.Constant_str ⟨.str x, H, I.tok _, ⟨_, rfl⟩, h⟩

def Gl (X : Cx) (x : Str) : Prop := X.env.kindOf x = some .globalImplicit
theorem ld_glob {E : Value → Shared → Prop} {pins : List (Addr × Obj)} {s : Shared} {σ : St} {H : Hp} {x : Str} {u : Value} {pos : Pos} {Q : Value → Shared → Prop} (I : Inv X pins σ H s) (hg : Gl X x) (hm : X.mg x = some u) (h : Q u s)
    (hd : (x == ("__debug__" : Str)) = false := by decide) : wpAny (model X.prog X.w) X.A (eval (.Name x pos) X.env) Q E s :=
  Calls.Name_function_global I.ok.kind hg (Calls.loadGlobal_global (by rw [I.ok.glob]; exact I.mod.glob.keeps I.bk) hm h) hd
theorem ld_blt {E : Value → Shared → Prop} {pins : List (Addr × Obj)} {s : Shared} {σ : St} {H : Hp} {x : Str} {u : Value} {pos : Pos} {Q : Value → Shared → Prop} (I : Inv X pins σ H s) (hg : Gl X x) (hm : X.mg x = none) (hv : bootBuiltins x = some u) (h : Q u s)
    (hn : x ≠ "__name__" := by decide) (hd : (x == ("__debug__" : Str)) = false := by decide) : wpAny (model X.prog X.w) X.A (eval (.Name x pos) X.env) Q E s := by
  obtain ⟨mb, h1, h2⟩ := I.mod.blt
  exact Calls.Name_function_global I.ok.kind hg (Calls.loadGlobal_builtin (by rw [I.ok.glob]; exact I.mod.glob.keeps I.bk) hm (by rw [I.ok.blt]; exact h1.keeps I.bk) ((h2 x hn).trans hv) h) hd
theorem pe_glob {x : Str} {v : V} {u : Value} {pos : Pos} (hg : Gl X x) (hm : X.mg x = some u) (r : RelV v u) (hd : (x == ("__debug__" : Str)) = false := by decide) : PE X (.Name x pos) (tC v) :=
  fun _ _ _ H _ I h => ld_glob I hg hm ⟨v, H, I, r, h⟩ hd
theorem pe_bltn {x : Str} {v : V} {u : Value} {pos : Pos} (hg : Gl X x) (hm : X.mg x = none) (hv : bootBuiltins x = some u) (r : RelV v u) (hn : x ≠ "__name__" := by decide) (hd : (x == ("__debug__" : Str)) = false := by decide) : PE X (.Name x pos) (tC v) :=
  fun _ _ _ H _ I h => ld_blt I hg hm hv ⟨v, H, I, r, h⟩ hn hd

def t2I (ta tb : TE) (k : Int → Int → Hp → Prop) : St → Hp → Prop := fun σ H => ta σ H fun x H1 => tb σ H1 fun y H2 => ∃ i j, x = .int i ∧ y = .int j ∧ k i j H2
def tAdd (ta tb : TE) : TE := fun σ H Q => t2I ta tb (fun i j H2 => Q (.int (i + j)) H2) σ H
def tSub (ta tb : TE) : TE := fun σ H Q => t2I ta tb (fun i j H2 => Q (.int (i - j)) H2) σ H
def tMul (ta tb : TE) : TE := fun σ H Q => t2I ta tb (fun i j H2 => (-(2 ^ 64) < i ∧ i < 2 ^ 64) ∧ Q (.int (i * j)) H2) σ H
variable {a b : Expr} {ta tb : TE} {pos : Pos}
theorem pe_add (ha : PE X a ta) (hb : PE X b tb) : PE X (.BinOp a .Add b pos) (tAdd ta tb) := by
  intro pins s σ H Q I h
  refine wpAny_BinOp (bin ha hb I h fun v u s2 x y H2 I2 rx ry q => ?_)
  obtain ⟨i, j, rfl, rfl, q⟩ := q
  obtain ⟨t, rfl⟩ := rx
  obtain ⟨t', rfl⟩ := ry
  exact add_int ⟨.int _, H2, I2.tok _, ⟨_, rfl⟩, q⟩
theorem pe_sub (ha : PE X a ta) (hb : PE X b tb) : PE X (.BinOp a .Sub b pos) (tSub ta tb) := by
  intro pins s σ H Q I h
  refine wpAny_BinOp (bin ha hb I h fun v u s2 x y H2 I2 rx ry q => ?_)
  obtain ⟨i, j, rfl, rfl, q⟩ := q
  obtain ⟨t, rfl⟩ := rx
  obtain ⟨t', rfl⟩ := ry
  exact sub_int ⟨.int _, H2, I2.tok _, ⟨_, rfl⟩, q⟩
theorem pe_mul (ha : PE X a ta) (hb : PE X b tb) : PE X (.BinOp a .Mult b pos) (tMul ta tb) := by
  intro pins s σ H Q I h
  refine wpAny_BinOp (bin ha hb I h fun v u s2 x y H2 I2 rx ry q => ?_)
  obtain ⟨i, j, rfl, rfl, ⟨q1, q2⟩, q⟩ := q
  obtain ⟨t, rfl⟩ := rx
  obtain ⟨t', rfl⟩ := ry
  exact mul_int ⟨.int _, H2, I2.tok _, ⟨_, rfl⟩, q⟩ (.of_left (intBits_le_64 q1 q2))

def PC (X : Cx) (op : CmpOp) (a b : Expr) (t : TE) : Prop :=
  ∀ (pins : List (Addr × Obj)) (s : Shared) (σ : St) (H : Hp) (Q : VK), Inv X pins σ H s → t σ H Q →
    wpAny (model X.prog X.w) X.A (eval a X.env) (fun v s₁ => wpAny (model X.prog X.w) X.A (eval b X.env) (fun u s₂ => wpAny (model X.prog X.w) X.A (compareOp op v u) (EP X pins σ Q) X.xe s₂) X.xe s₁) X.xe s
theorem nobehind (b : Expr) {op : CmpOp} (h : op ≠ .In) (h2 : op ≠ .NotIn) : behindInMarks op b = false := by
  have e1 : (op == CmpOp.In) = false := by cases op <;> first | rfl | exact absurd rfl h
  have e2 : (op == CmpOp.NotIn) = false := by cases op <;> first | rfl | exact absurd rfl h2
  cases b <;> simp [behindInMarks, e1, e2]
def tCmp (p : Int → Int → Bool) (ta tb : TE) : TE := fun σ H Q => t2I ta tb (fun i j H2 => Q (.bl (p i j)) H2) σ H
abbrev tLt : TE → TE → TE := tCmp fun i j => decide (i < j)
abbrev tLe : TE → TE → TE := tCmp fun i j => decide (i ≤ j)
abbrev tGt : TE → TE → TE := tCmp fun i j => decide (j < i)
abbrev tGe : TE → TE → TE := tCmp fun i j => decide (j ≤ i)
abbrev tEqI : TE → TE → TE := tCmp fun i j => decide (i = j)
abbrev tNeI : TE → TE → TE := tCmp fun i j => !decide (i = j)
theorem pc_int {op : CmpOp} {p : Int → Int → Bool} (ha : PE X a ta) (hb : PE X b tb)
    (rule : ∀ (i j : Int) (t u : Tok) (Q : Value → Shared → Prop) (s : Shared), Q (.bool (p i j)) s → wpAny (model X.prog X.w) X.A (compareOp op (.int i t) (.int j u)) Q X.xe s) : PC X op a b (tCmp p ta tb) := by
  intro pins s σ H Q I h
  refine bin ha hb I h fun v u s2 x y H2 I2 rx ry q => ?_
  obtain ⟨i, j, rfl, rfl, q⟩ := q
  obtain ⟨t, rfl⟩ := rx
  obtain ⟨t', rfl⟩ := ry
  exact rule i j t t' _ s2 ⟨.bl _, H2, I2, rfl, q⟩
theorem pc_lt (ha : PE X a ta) (hb : PE X b tb) : PC X .Lt a b (tLt ta tb) := pc_int ha hb fun _ _ _ _ _ _ h => lt_int h
theorem pc_le (ha : PE X a ta) (hb : PE X b tb) : PC X .LtE a b (tLe ta tb) := pc_int ha hb fun _ _ _ _ _ _ h => le_int h
theorem pc_gt (ha : PE X a ta) (hb : PE X b tb) : PC X .Gt a b (tGt ta tb) := pc_int ha hb fun _ _ _ _ _ _ h => gt_int h
theorem pc_ge (ha : PE X a ta) (hb : PE X b tb) : PC X .GtE a b (tGe ta tb) := pc_int ha hb fun _ _ _ _ _ _ h => ge_int h
theorem pc_eqI (ha : PE X a ta) (hb : PE X b tb) : PC X .Eq a b (tEqI ta tb) := pc_int ha hb fun _ _ _ _ _ _ h => eq_int (by rw [Bool.beq_eq_decide_eq]; exact h)
theorem pc_neI (ha : PE X a ta) (hb : PE X b tb) : PC X .NotEq a b (tNeI ta tb) := pc_int ha hb fun _ _ _ _ _ _ h => ne_int (by rw [bne, Bool.beq_eq_decide_eq]; exact h)
def tIsN (ta : TE) : TE := fun σ H Q => ta σ H fun x H1 => Q (.bl (decide (x = .non))) H1
def tNotN (ta : TE) : TE := fun σ H Q => ta σ H fun x H1 => Q (.bl (!decide (x = .non))) H1
theorem RelV.none_iff {x : V} {v : Value} (r : RelV x v) : (v == Value.none) = decide (x = .non) := by
  cases x with
  | non => cases r; rfl
  | bl _ => cases r; rfl
  | int _ => obtain ⟨t, rfl⟩ := r; rfl
  | str _ => obtain ⟨t, rfl⟩ := r; rfl
  | byt _ => obtain ⟨t, rfl⟩ := r; rfl
  | flt _ => obtain ⟨t, rfl⟩ := r; rfl
  | ref _ => cases r; rfl
  | ty _ => cases r; rfl
theorem pc_isN {j pos'} (ha : PE X a ta) : PC X .Is a (.Constant .none j pos') (tIsN ta) := by
  intro pins s σ H Q I h
  refine thn (ha pins s σ H _ I h) fun v s1 ⟨x, H1, I1, r1, q1⟩ => ?_
  exact Constant_none (is_none_gen ⟨.bl _, H1, I1, by rw [r1.none_iff]; rfl, q1⟩)
theorem pc_notN {j pos'} (ha : PE X a ta) : PC X .IsNot a (.Constant .none j pos') (tNotN ta) := by
  intro pins s σ H Q I h
  refine thn (ha pins s σ H _ I h) fun v s1 ⟨x, H1, I1, r1, q1⟩ => ?_
  exact Constant_none (isnot_none_gen ⟨.bl _, H1, I1, by rw [r1.none_iff]; rfl, q1⟩)
def tB (t : TE) : TT := fun σ H Q => t σ H fun x H1 => ∃ c, x = .bl c ∧ Q c H1
theorem pe_cmp {op : CmpOp} {t : TE} (h : PC X op a b t) (h1 : behindInMarks op b = false := by first | exact nobehind _ (by decide) (by decide) | rfl) : PE X (.Compare a [op] [b] pos) t := fun pins s σ H Q I hw => wpAny_Compare1 (h pins s σ H Q I hw) h1
theorem pt_cmp {op : CmpOp} {t : TE} (h : PC X op a b t) (h1 : behindInMarks op b = false := by first | exact nobehind _ (by decide) (by decide) | rfl) : PT X (.Compare a [op] [b] pos) (tB t) := by
  intro pins s σ H Q I hw
  refine wpAny_isTrue_Compare1 (thn (h pins s σ H _ I hw) fun v s1 h1 => thn h1 fun u s2 h2 => thn h2 fun c s3 ⟨x, H1, I1, r1, q1⟩ => ?_) h1
  obtain ⟨d, rfl, q⟩ := q1
  cases r1
  exact wpAny_truthy_bool ⟨H1, I1, q⟩
theorem pt_val {e : Expr} {t : TE} (h : PE X e t) (he : ∀ whole, isTrue e X.env whole = (do let v ← whole; standAt e.pos; holding [v] (truthy v)) := by intro _; rfl) : PT X e (tB t) := by
  intro pins s σ H Q I hw
  refine isTrue_plain (thn (h pins s σ H _ I hw) fun v s1 ⟨x, H1, I1, r1, q1⟩ => ?_) (he _)
  obtain ⟨d, rfl, q⟩ := q1
  cases r1
  exact wpAny_truthy_bool ⟨H1, I1, q⟩

variable {tA tB' : TT} {rest : List Expr}
def tAnd (t u : TT) : TT := fun σ H Q => t σ H fun c H1 => if c = true then u σ H1 Q else Q false H1
def tOr (t u : TT) : TT := fun σ H Q => t σ H fun c H1 => if c = true then Q true H1 else u σ H1 Q
def tNot (t : TT) : TT := fun σ H Q => t σ H fun c H1 => Q (!c) H1
theorem pw_and1 (ha : PT X a tA) : PW X (.BoolOp .And [a] pos) tA := by
  intro wh pins s σ H Q I h
  refine isTrue_and (thn (ha pins s σ H Q I h) fun c s1 e => ?_)
  cases c with
  | true => exact isTrue_and_nil e
  | false => exact e
theorem pw_or1 (ha : PT X a tA) : PW X (.BoolOp .Or [a] pos) tA := by
  intro wh pins s σ H Q I h
  refine isTrue_or (thn (ha pins s σ H Q I h) fun c s1 e => ?_)
  cases c with
  | false => exact isTrue_or_nil e
  | true => exact e
theorem pw_and (ha : PT X a tA) (hb : PW X (.BoolOp .And (b :: rest) pos) tB') : PW X (.BoolOp .And (a :: b :: rest) pos) (tAnd tA tB') := by
  intro wh pins s σ H Q I h
  refine isTrue_and (thn (ha pins s σ H _ I h) fun c s1 ⟨H1, I1, q1⟩ => ?_)
  cases c with
  | true => exact hb wh pins s1 σ H1 Q I1 q1
  | false => exact ⟨H1, I1, q1⟩
theorem pw_or (ha : PT X a tA) (hb : PW X (.BoolOp .Or (b :: rest) pos) tB') : PW X (.BoolOp .Or (a :: b :: rest) pos) (tOr tA tB') := by
  intro wh pins s σ H Q I h
  refine isTrue_or (thn (ha pins s σ H _ I h) fun c s1 ⟨H1, I1, q1⟩ => ?_)
  cases c with
  | true => exact ⟨H1, I1, q1⟩
  | false => exact hb wh pins s1 σ H1 Q I1 q1
theorem pt_not (ha : PT X a tA) : PT X (.UnaryOp .Not a pos) (tNot tA) := by
  intro pins s σ H Q I h
  exact isTrue_not (ha pins s σ H (fun c H1 => Q (!c) H1) I h)
def tAndV (ta tb : TE) : TE := fun σ H Q => ta σ H fun x H1 => ∃ c, x = .bl c ∧ if c = true then tb σ H1 Q else Q (.bl false) H1
def tOrV (ta tb : TE) : TE := fun σ H Q => ta σ H fun x H1 => ∃ c, x = .bl c ∧ if c = true then Q (.bl true) H1 else tb σ H1 Q
def tNotV (ta : TE) : TE := fun σ H Q => ta σ H fun x H1 => ∃ c, x = .bl c ∧ Q (.bl (!c)) H1
theorem pe_one {op} {t : TE} (h : PE X a t) : PE X (.BoolOp op [a] pos) t := fun pins s σ H Q I hw => BoolOp_one (h pins s σ H Q I hw)
theorem pe_and (ha : PE X a ta) (hb : PE X (.BoolOp .And (b :: rest) pos) tb) : PE X (.BoolOp .And (a :: b :: rest) pos) (tAndV ta tb) := by
  intro pins s σ H Q I h
  refine BoolOp_and (thn (ha pins s σ H _ I h) fun v s1 ⟨x, H1, I1, r1, q1⟩ => ?_)
  obtain ⟨c, rfl, q1⟩ := q1
  cases r1
  refine wpAny_truthy_bool ?_
  cases c with
  | true => exact hb pins s1 σ H1 Q I1 q1
  | false => exact ⟨.bl false, H1, I1, rfl, q1⟩
theorem pe_or (ha : PE X a ta) (hb : PE X (.BoolOp .Or (b :: rest) pos) tb) : PE X (.BoolOp .Or (a :: b :: rest) pos) (tOrV ta tb) := by
  intro pins s σ H Q I h
  refine BoolOp_or (thn (ha pins s σ H _ I h) fun v s1 ⟨x, H1, I1, r1, q1⟩ => ?_)
  obtain ⟨c, rfl, q1⟩ := q1
  cases r1
  refine wpAny_truthy_bool ?_
  cases c with
  | false => exact hb pins s1 σ H1 Q I1 q1
  | true => exact ⟨.bl true, H1, I1, rfl, q1⟩
theorem pe_not (ha : PE X a ta) : PE X (.UnaryOp .Not a pos) (tNotV ta) := by
  intro pins s σ H Q I h
  refine UnaryOp_ (thn (ha pins s σ H _ I h) fun v s1 ⟨x, H1, I1, r1, q1⟩ => ?_)
  obtain ⟨c, rfl, q1⟩ := q1
  cases r1
  exact not_of (wpAny_truthy_bool ⟨.bl (!c), H1, I1, rfl, q1⟩)
def tIf (t : TT) (ta tb : TE) : TE := fun σ H Q => t σ H fun c H1 => if c = true then ta σ H1 Q else tb σ H1 Q
theorem pe_ifExp {c : Expr} (hc : PT X c tA) (ha : PE X a ta) (hb : PE X b tb) : PE X (.IfExp c a b pos) (tIf tA ta tb) := by
  intro pins s σ H Q I h
  refine wpAny_IfExp (thn (hc pins s σ H _ I h) fun d s1 ⟨H1, I1, q1⟩ => ?_)
  cases d with
  | true => exact ha pins s1 σ H1 Q I1 q1
  | false => exact hb pins s1 σ H1 Q I1 q1
end
end L2

namespace L2
open PySem PySem.Spec PyProof.Rows

def SqL (K : PySem.W.Frag) (H : Hp) (a : Addr) (xs : List V) : Prop :=
  Rd H a (.lst xs) ∨
    ∃ (o : Obj) (its : Array Value) (n : Nat), K.lookup a = some o ∧ o.cls = .type "list" ∧ o.dict = none ∧ o.data = .seq its n ∧ its.size ≤ sizeLine ∧ Vals xs its.toList
def SqT (K : PySem.W.Frag) (H : Hp) (a : Addr) (xs : List V) : Prop :=
  Rd H a (.tup xs) ∨
    ∃ (o : Obj) (its : Array Value) (n : Nat), K.lookup a = some o ∧ o.cls = .type "tuple" ∧ o.data = .seq its n ∧ its.size ≤ sizeLine ∧ Vals xs its.toList
def absV : Value → Option V
  | .none => some .non
  | .bool b => some (.bl b)
  | .int i _ => some (.int i)
  | .str x _ => some (.str x)
  | .bytes b _ => some (.byt b)
  | .float b _ => some (.flt b)
  | .ref a => some (.ref a)
  | .type n => some (.ty n)
  | _ => none
theorem RelV.abs {x : V} {u : Value} (r : RelV x u) : absV u = some x := by
  cases x with
  | non => cases r; rfl
  | bl _ => cases r; rfl
  | int _ => obtain ⟨t, rfl⟩ := r; rfl
  | str _ => obtain ⟨t, rfl⟩ := r; rfl
  | byt _ => obtain ⟨t, rfl⟩ := r; rfl
  | flt _ => obtain ⟨t, rfl⟩ := r; rfl
  | ref _ => cases r; rfl
  | ty _ => cases r; rfl
theorem RelV.inj {x y : V} {u : Value} (r : RelV x u) (q : RelV y u) : x = y := Option.some.inj (r.abs.symm.trans q.abs)
theorem Vals.inj : ∀ {xs ys : List V} {us : List Value}, Vals xs us → Vals ys us → xs = ys
  | _, _, _, .nil, .nil => rfl
  | _, _, _, .cons r t, .cons r' t' => by rw [r.inj r', Vals.inj t t']
section
variable {X : Cx} {pins : List (Addr × Obj)} {σ : St} {H : Hp} {s : Shared} {a : Addr} {xs ys : List V}
theorem SqL.of {K : PySem.W.Frag} (h : H a = some (.lst xs)) : SqL K H a xs := .inl (.inl h)
theorem SqT.of {K : PySem.W.Frag} (h : H a = some (.tup xs)) : SqT K H a xs := .inl (.inl h)
theorem Inv.list (I : Inv X pins σ H s) (h : SqL X.K H a xs) : ∃ its : List Value, Vals xs its ∧ PlainL s.heap a its.toArray ∧ xs.length ≤ sizeLine := by
  rcases h with h | ⟨o, its, n, hk, hc, hd, hs, hz, r⟩
  · obtain ⟨z, its, n, r, e⟩ := h.ok I.hok
    exact ⟨its, r, ⟨_, n, e, rfl, rfl, rfl⟩, z⟩
  · refine ⟨its.toList, r, ⟨o, n, I.kIn a o hk, hc, hd, by simpa using hs⟩, ?_⟩
    have e := r.length
    simp only [Array.length_toList] at e
    omega
theorem Inv.tuple (I : Inv X pins σ H s) (h : SqT X.K H a xs) : ∃ its : List Value, Vals xs its ∧ IsTup s.heap a its.toArray ∧ xs.length ≤ sizeLine := by
  rcases h with h | ⟨o, its, n, hk, hc, hs, hz, r⟩
  · obtain ⟨z, its, r, p⟩ := h.ok I.hok
    exact ⟨its, r, p, z⟩
  · refine ⟨its.toList, r, ⟨o, I.kIn a o hk, hc, n, by simpa using hs⟩, ?_⟩
    have e := r.length
    simp only [Array.length_toList] at e
    omega
theorem Inv.list_inj (I : Inv X pins σ H s) (h : SqL X.K H a xs) (h' : SqL X.K H a ys) : xs = ys := by
  obtain ⟨its, r, ⟨o, n, e, _, _, d⟩, _⟩ := I.list h
  obtain ⟨its', r', ⟨o', n', e', _, _, d'⟩, _⟩ := I.list h'
  rw [e] at e'; cases e'
  rw [d] at d'
  injection d' with d1 _
  have : its = its' := by simpa using congrArg Array.toList d1
  subst this
  exact r.inj r'
theorem Inv.tuple_inj (I : Inv X pins σ H s) (h : SqT X.K H a xs) (h' : SqT X.K H a ys) : xs = ys := by
  obtain ⟨its, r, ⟨o, e, _, n, d⟩, _⟩ := I.tuple h
  obtain ⟨its', r', ⟨o', e', _, n', d'⟩, _⟩ := I.tuple h'
  rw [e] at e'; cases e'
  rw [d] at d'
  injection d' with d1 _
  have : its = its' := by simpa using congrArg Array.toList d1
  subst this
  exact r.inj r'
end

abbrev Cx.wish (X : Cx) (E : Value → Shared → Prop) : Cx := { X with xe := E }
abbrev Cx.nox (X : Cx) : Cx := X.wish fun _ _ => False
theorem Cx.Ok.wish {X : Cx} (ok : X.Ok) (E : Value → Shared → Prop) : (X.wish E).Ok :=
  ⟨ok.mod, ok.kind, ok.glob, ok.blt, ok.above, ok.inj, ok.has, ok.cab, ok.hd, ok.frames, ok.stk, ok.exf, ok.bs, ok.bsz, ok.noex, ok.exfs, ok.funs, ok.frf⟩
theorem Cx.Ok.unwish {X : Cx} {E : Value → Shared → Prop} (ok : (X.wish E).Ok) : X.Ok :=
  ⟨ok.mod, ok.kind, ok.glob, ok.blt, ok.above, ok.inj, ok.has, ok.cab, ok.hd, ok.frames, ok.stk, ok.exf, ok.bs, ok.bsz, ok.noex, ok.exfs, ok.funs, ok.frf⟩
section
variable {X : Cx} {pins : List (Addr × Obj)} {σ : St} {H : Hp} {s : Shared} {E : Value → Shared → Prop}
theorem Inv.wish (I : Inv X pins σ H s) (E : Value → Shared → Prop) : Inv (X.wish E) pins σ H s := ⟨I.ok.wish E, I.os, I.bare, I.base, I.loc, I.cell, I.free, I.freeC, I.pin, I.hok, I.len⟩
theorem Inv.unwish (I : Inv (X.wish E) pins σ H s) : Inv X pins σ H s := ⟨I.ok.unwish, I.os, I.bare, I.base, I.loc, I.cell, I.free, I.freeC, I.pin, I.hok, I.len⟩
theorem SP.unwish {D : Ends} {f : Flow} {s' : Shared} (h : SP (X.wish E) pins D f s') : SP X pins D f s' := by
  cases f with
  | next => obtain ⟨σ', H', I, q⟩ := h; exact ⟨σ', H', I.unwish, q⟩
  | brk => obtain ⟨σ', H', I, q⟩ := h; exact ⟨σ', H', I.unwish, q⟩
  | cont => obtain ⟨σ', H', I, q⟩ := h; exact ⟨σ', H', I.unwish, q⟩
  | ret u => obtain ⟨v, σ', H', I, r, q⟩ := h; exact ⟨v, σ', H', I.unwish, r, q⟩
theorem PE.nox {e : Expr} {t : TE} (h : PE X.nox e t) : PE X e t := fun pins s σ H Q I hw =>
  wpAny_mono (h pins s σ H Q (I.wish _) hw) (fun _ _ ⟨v, H', I', r, q⟩ => ⟨v, H', I'.unwish, r, q⟩) fun _ _ z => False.elim z
theorem PT.nox {e : Expr} {t : TT} (h : PT X.nox e t) : PT X e t := fun pins s σ H Q I hw =>
  wpAny_mono (h pins s σ H Q (I.wish _) hw) (fun _ _ ⟨H', I', q⟩ => ⟨H', I'.unwish, q⟩) fun _ _ z => False.elim z
theorem PSs.nox {st : List Stmt} {t : TS} (h : PSs X.nox st t) : PSs X st t := fun pins s σ H D I hw =>
  wpAny_mono (h pins s σ H D (I.wish _) hw) (fun _ _ q => q.unwish) fun _ _ z => False.elim z
end

section
variable {X : Cx} {st : Stmt} {rest : List Stmt} {t u : TS} {e : Expr} {te : TE} {pos : Pos}
def tNext : TS := fun D σ H => D.nx σ H
def tSeq (t u : TS) : TS := fun D σ H => t { D with nx := u D } σ H
theorem pss_nil : PSs X [] tNext := fun _ _ σ H _ I h => wpAny_execs_nil ⟨σ, H, I, h⟩
theorem pss_cons (h1 : PS X st t) (h2 : PSs X rest u) : PSs X (st :: rest) (tSeq t u) := by
  intro pins s σ H D I h
  refine wpAny_execs_cons (thn (h1 pins s σ H { D with nx := u D } I h) fun f s1 q => ?_)
  cases f with
  | next =>
    obtain ⟨σ', H', I', q⟩ := q
    exact h2 pins s1 σ' H' D I' q
  | ret v => exact q
  | brk => exact q
  | cont => exact q
theorem pss_one (h1 : PS X st t) : PSs X [st] t := by
  intro pins s σ H D I h
  refine wpAny_execs_cons (thn (h1 pins s σ H D I h) fun f s1 q => ?_)
  cases f with
  | next => exact wpAny_execs_nil q
  | ret v => exact q
  | brk => exact q
  | cont => exact q
def tBreak : TS := fun D σ H => D.bk σ H
def tCont : TS := fun D σ H => D.ct σ H
theorem ps_pass : PS X (.Pass pos) tNext := fun _ _ σ H _ I h => wpAny_Pass ⟨σ, H, I, h⟩
theorem ps_break : PS X (.Break pos) tBreak := fun _ _ σ H _ I h => wpAny_Break ⟨σ, H, I, h⟩
theorem ps_continue : PS X (.Continue pos) tCont := fun _ _ σ H _ I h => wpAny_Continue ⟨σ, H, I, h⟩
theorem Inv.quiet {pins : List (Addr × Obj)} {σ : St} {H : Hp} {s : Shared} (I : Inv X pins σ H s) : interactive X.env = false := by simp [interactive, I.ok.kind]
theorem ps_doc {x j pos pos'} : PS X (.Expr (.Constant (.str x) j pos) pos') tNext := fun _ s σ H _ I h => wpAny_Expr (Calls.Constant_str (show SP X _ _ .next { s with toks := s.toks + 1 } from ⟨σ, H, I.tok _, h⟩)) I.quiet
def tDrop (te : TE) : TS := fun D σ H => te σ H fun _ H1 => D.nx σ H1
theorem ps_expr (he : PE X e te) (hs : swapsWith e none pos.line X.env = pure false := by rfl) : PS X (.Expr e pos) (tDrop te) := by
  intro pins s σ H D I h
  exact wpAny_Expr_any (thn (he pins s σ H _ I h) fun v s1 ⟨x, H1, I1, r1, q1⟩ => ⟨σ, H1, I1, q1⟩) I.quiet hs
def tRet (te : TE) : TS := fun D σ H => te σ H D.rt
theorem ps_ret (he : PE X e te) : PS X (.Return (some e) pos) (tRet te) := by
  intro pins s σ H D I h
  exact wpAny_Return_some (thn (he pins s σ H _ I h) fun v s1 ⟨x, H1, I1, r1, q1⟩ => ⟨x, σ, H1, I1, r1, q1⟩)
def tRetN : TS := fun D _ H => D.rt .non H
theorem ps_retN : PS X (.Return none pos) tRetN := fun _ _ σ H _ I h => wpAny_Return_none ⟨.non, σ, H, I, rfl, h⟩
def tIfS (c : TT) (t u : TS) : TS := fun D σ H => c σ H fun b H1 => if b = true then t D σ H1 else u D σ H1
theorem ps_if {c : Expr} {a b : List Stmt} {tc : TT} (hc : PT X c tc) (ha : PSs X a t) (hb : PSs X b u) : PS X (.If c a b pos) (tIfS tc t u) := by
  intro pins s σ H D I h
  refine wpAny_If (thn (hc pins s σ H _ I h) fun d s1 ⟨H1, I1, q1⟩ => ?_)
  cases d with
  | true => exact ha pins s1 σ H1 D I1 q1
  | false => exact hb pins s1 σ H1 D I1 q1
def tNever : TS := fun _ _ _ => False
theorem ps_never : PS X st tNever := fun _ _ _ _ _ _ h => h.elim
theorem pss_never {sts : List Stmt} : PSs X sts tNever := fun _ _ _ _ _ _ h => h.elim
end

abbrev TG := V → St → Hp → (St → Hp → Prop) → Prop
abbrev TGs := List V → St → Hp → (St → Hp → Prop) → Prop
def PG (X : Cx) (target : Expr) (t : TG) : Prop :=
  ∀ (pins : List (Addr × Obj)) (s : Shared) (σ : St) (H : Hp) (v : V) (u : Value) (Q : St → Hp → Prop), Inv X pins σ H s → RelV v u → t v σ H Q →
    wpAny (model X.prog X.w) X.A (assign target X.env u) (fun _ s' => ∃ σ' H', Inv X pins σ' H' s' ∧ Q σ' H') X.xe s
def PGs (X : Cx) (ts : List Expr) (t : TGs) : Prop :=
  ∀ (pins : List (Addr × Obj)) (s : Shared) (σ : St) (H : Hp) (vs : List V) (us : List Value) (Q : St → Hp → Prop), Inv X pins σ H s → Vals vs us → t vs σ H Q →
    wpAny (model X.prog X.w) X.A (assignInOrder ((assignEach ts X.env).map (·.2)) us) (fun _ s' => ∃ σ' H', Inv X pins σ' H' s' ∧ Q σ' H') X.xe s
abbrev TSet := V → V → V → Hp → (Hp → Prop) → Prop
def PSet (X : Cx) (t : TSet) : Prop :=
  ∀ (pins : List (Addr × Obj)) (s : Shared) (σ : St) (H : Hp) (o i v : V) (ov iv u : Value) (Q : Hp → Prop), Inv X pins σ H s → RelV o ov → RelV i iv → RelV v u → t o i v H Q →
    wpAny (model X.prog X.w) X.A (setItem ov iv u) (fun _ s' => ∃ H', Inv X pins σ H' s' ∧ Q H') X.xe s
abbrev TIp := V → V → Hp → VK → Prop
def PIp (X : Cx) (op : Operator) (t : TIp) : Prop :=
  ∀ (pins : List (Addr × Obj)) (s : Shared) (σ : St) (H : Hp) (x y : V) (v u : Value) (Q : VK), Inv X pins σ H s → RelV x v → RelV y u → t x y H Q →
    wpAny (model X.prog X.w) X.A (inplaceOp op v u) (EP X pins σ Q) X.xe s
section
variable {X : Cx} {pos : Pos}
def gName (i : Nat) : TG := fun v σ H Q => Q (σ.set i (some v)) H
theorem pg_name {i : Nat} {x : Str} (hN : X.N.Nodup) (hi : X.N[i]? = some x) (hx : Loc X.env.scope x) (hf : X.fn x = true ∨ X.env.scope.names.lookup x = some .local := by first | exact .inl rfl | exact .inr rfl | assumption) : PG X (.Name x pos) (gName i) := by
  intro pins s σ H v u Q I r h
  exact wpAny_assign_Name (store_ok I hN hi hx r (fun s' I' => ⟨_, H, I', h⟩) hf)
def gNil : TGs := fun vs σ H Q => vs = [] ∧ Q σ H
def gCons (t : TG) (u : TGs) : TGs := fun vs σ H Q => ∃ v r, vs = v :: r ∧ t v σ H fun σ' H' => u r σ' H' Q
theorem pgs_nil : PGs X [] gNil := by
  intro pins s σ H vs us Q I r h
  obtain ⟨e, h⟩ := h
  subst e
  cases r
  exact assignInOrder_nil ⟨σ, H, I, h⟩
theorem pgs_cons {e : Expr} {es : List Expr} {t : TG} {u : TGs} (h1 : PG X e t) (h2 : PGs X es u)
    (hs : (assignEach (e :: es) X.env).map (·.2) = assign e X.env :: (assignEach es X.env).map (·.2) := by rfl) : PGs X (e :: es) (gCons t u) := by
  intro pins s σ H vs us Q I r h
  obtain ⟨v, vr, e1, h⟩ := h
  subst e1
  cases r with
  | cons r rr =>
    rw [hs]
    refine assignInOrder_cons (thn (h1 pins s σ H _ _ _ I r h) fun _ s1 ⟨σ1, H1, I1, q1⟩ => ?_)
    exact h2 pins s1 σ1 H1 _ _ Q I1 rr q1
def gTup (K : PySem.W.Frag) (n : Nat) (t : TGs) : TG := fun v σ H Q => ∃ a xs, v = .ref a ∧ SqT K H a xs ∧ xs.length = n ∧ t xs σ H Q
theorem pg_tup {es : List Expr} {k : Nat} {t : TGs} {n : Nat} (hc : X.calm = true) (h : PGs X es t)
    (hn : (assignEach es X.env).length = n := by rfl) (hst : (assignEach es X.env).findIdx? (·.1) = none := by rfl) : PG X (.Tuple es k pos) (gTup X.K n t) := by
  intro pins s σ H v u Q I r hw
  obtain ⟨a, xs, e1, hq, hl, hw⟩ := hw
  subst e1
  cases r
  obtain ⟨its, rv, ht, hz⟩ := I.tuple hq
  refine assign_Tuple_tuple (I.ok.hd hc) ht (by simp [hn, ← hl, rv.length]) hst fun h' hx => ?_
  have I1 : Inv X pins σ H { s with heap := h' } := I.kept (t' := s.toks) fun b o e => hx b o (Nat.ne_of_lt (Heap.lt_size e)) e
  exact h pins _ σ H xs _ Q I1 (by simpa using rv) hw
def gSub (to ti : TE) (t : TSet) : TG := fun v σ H Q => to σ H fun o H1 => ti σ H1 fun i H2 => t o i v H2 fun H3 => Q σ H3
theorem pg_sub {o i : Expr} {to ti : TE} {t : TSet} (ho : PE X o to) (hi : PE X i ti) (hs : PSet X t)
    (ha : ∀ v, assign (.Subscript o i pos) X.env v = (do
      let ov ← holding [v] (eval o X.env)
      let iv ← holding [v, ov] (eval i X.env)
      standAt pos
      holding [v, ov, iv] (setItem ov iv v)
      release [v, ov, iv] []) := by intro _; rfl) : PG X (.Subscript o i pos) (gSub to ti t) := by
  intro pins s σ H v u Q I r h
  rw [ha]
  refine wpAny_bind (wpAny_holding (thn (ho pins s σ H _ I h) fun ov s1 ⟨x, H1, I1, r1, q1⟩ => ?_))
  refine wpAny_bind (wpAny_holding (thn (hi pins s1 σ H1 _ I1 q1) fun iv s2 ⟨y, H2, I2, r2, q2⟩ => ?_))
  refine wpAny_bind (wpAny_standAt (wpAny_bind (wpAny_holding (thn (hs pins s2 σ H2 x y v ov iv u _ I2 r1 r2 r q2) fun _ s3 ⟨H3, I3, q3⟩ => ?_))))
  exact wpAny_release ⟨σ, H3, I3, q3⟩
def tAsg (te : TE) (g : TG) : TS := fun D σ H => te σ H fun x H1 => g x σ H1 D.nx
theorem ps_asg {tg e : Expr} {te : TE} {g : TG} (he : PE X e te) (hg : PG X tg g) (hs : swapsWithSole [tg] e pos.line X.env = pure false := by rfl) (hw : swappedStores [tg] e X.env = pure none := by rfl)
    (h1 : (assignEach [tg] X.env).map (·.2) = [assign tg X.env] := by rfl) : PS X (.Assign [tg] e pos) (tAsg te g) := by
  intro pins s σ H D I h
  refine wpAny_Assign_stores (thn (he pins s σ H _ I h) fun v s1 ⟨x, H1, I1, r1, q1⟩ => ?_) hs hw
  rw [h1]
  exact thn (hg pins s1 σ H1 x v _ I1 r1 q1) fun _ s2 q => q
theorem ps_set {i : Nat} {x : Str} {e : Expr} {te : TE} {pos' : Pos} (hN : X.N.Nodup) (hi : X.N[i]? = some x) (hx : Loc X.env.scope x) (he : PE X e te) (hs : swapsWith e (some (.Name x pos')) pos.line X.env = pure false := by rfl) (hf : X.fn x = true ∨ X.env.scope.names.lookup x = some .local := by first | exact .inl rfl | exact .inr rfl | assumption) :
    PS X (.Assign [.Name x pos'] e pos) (tAsg te (gName i)) := by
  intro pins s σ H D I h
  refine wpAny_Assign_Name (thn (he pins s σ H _ I h) fun v s1 ⟨y, H1, I1, r1, q1⟩ => ?_) hs
  exact store_ok I1 hN hi hx r1 (fun s2 I2 => ⟨_, H1, I2, q1⟩) hf
def tPar (i j : Nat) (ta : TA) : TS := fun D σ H => ta σ H fun vs H1 => ∃ v w, vs = [v, w] ∧ D.nx ((σ.set i (some v)).set j (some w)) H1
theorem ps_par {i j : Nat} {x y : Str} {a b : Expr} {ta : TA} {px py pt : Pos} {kt k2 pt2} (hc : X.calm = true) (hN : X.N.Nodup) (hi : X.N[i]? = some x) (hj : X.N[j]? = some y) (hij : i ≠ j)
    (hx : X.env.scope.names.lookup x = some .local) (hy : X.env.scope.names.lookup y = some .local) (ha : PA X [a, b] ta)
    (hw : swappedStores [.Tuple [.Name x px, .Name y py] kt pt] (.Tuple [a, b] k2 pt2) X.env = pure (some [x, y]))
    (hs : swapsWithSole [.Tuple [.Name x px, .Name y py] kt pt] (.Tuple [a, b] k2 pt2) pos.line X.env = pure false := by rfl) :
    PS X (.Assign [.Tuple [.Name x px, .Name y py] kt pt] (.Tuple [a, b] k2 pt2) pos) (tPar i j ta) := by
  intro pins s σ H D I h
  rw [exec_Assign_arm]
  refine wpAny_bind (wpAny_standAt ?_)
  rw [hs]
  refine wpAny_bind (wpAny_pure ?_)
  rw [if_neg (by decide)]
  refine wpAny_bind (Tuple_ (thn (ha _ pins s σ H _ I h) fun us s1 ⟨vs, H1, I1, r1, q1⟩ => ?_))
  obtain ⟨v, w, e1, q1⟩ := q1
  subst e1
  obtain ⟨u1, u2, rfl, rv, rw'⟩ : ∃ u1 u2, us = [u1, u2] ∧ RelV v u1 ∧ RelV w u2 := by
    cases r1 with
    | cons p q =>
      cases q with
      | cons p' q' =>
        cases q'
        exact ⟨_, _, rfl, p, p'⟩
  refine wpAny_newObj_type ?_ (by show 2 ≤ sizeLine; decide)
  have I2 : Inv X pins σ H1 { s1 with heap := s1.heap.push { cls := .type "tuple", data := .seq [u1, u2].toArray } } := I1.kept (t' := s1.toks) fun b o e => Heap.get?_push_of_some _ e
  rw [hw]
  refine wpAny_bind (wpAny_pure ?_)
  show wpAny (model X.prog X.w) X.A (do rule "assign.swapped-stores"; let items ← unpackItems (.ref s1.heap.objs.size) 2 none; assignInOrder [fun v => bindName X.env y v, fun v => bindName X.env x v] items.reverse; pure Flow.next) _ _ _
  refine wpAny_bind (wpAny_rule (wpAny_bind (unpackItems_tuple (items := #[u1, u2]) (I.ok.hd hc) (IsTup.new s1.heap _) fun h' hx' => ?_)))
  have I3 := I2.kept (h' := h') (t' := s1.toks) fun b o e => hx' b o (Nat.ne_of_lt (Heap.lt_size e)) e
  show wpAny _ _ (assignInOrder [fun v => bindName X.env y v, fun v => bindName X.env x v] [u2, u1] >>= fun _ => pure Flow.next) _ _ _
  refine wpAny_bind (assignInOrder_cons (wpAny_bindName (store_ok I3 hN hj (.inl hy) rw' (fun s2 I4 => ?_) (.inr hy))))
  refine assignInOrder_cons (wpAny_bindName (store_ok I4 hN hi (.inl hx) rv (fun s3 I5 => assignInOrder_nil (wpAny_pure ?_)) (.inr hx)))
  rw [List.set_comm _ _ (Ne.symm hij)] at I5
  exact ⟨_, H1, I5, q1⟩
def tAug (i : Nat) (te : TE) (ti : TIp) : TS := fun D σ H => ∃ x, σ[i]? = some (some x) ∧ te σ H fun y H1 => ti x y H1 fun z H2 => D.nx (σ.set i (some z)) H2
theorem ps_aug {i : Nat} {x : Str} {e : Expr} {te : TE} {op : Operator} {ti : TIp} {pos' : Pos} (hN : X.N.Nodup) (hi : X.N[i]? = some x) (hx : Loc X.env.scope x) (he : PE X e te) (ho : PIp X op ti) (hf : X.fn x = true ∨ X.env.scope.names.lookup x = some .local := by first | exact .inl rfl | exact .inr rfl | assumption) :
    PS X (.AugAssign (.Name x pos') op e pos) (tAug i te ti) := by
  intro pins s σ H D I h
  obtain ⟨v, e1, h⟩ := h
  obtain ⟨m, hn, hl⟩ := I.loc
  have vis : Vis X.env.scope x := by rcases hx with k | k; exact .inl k; exact .inr (.inl k)
  obtain ⟨u, r, l⟩ := hl i x v hi e1 vis
  refine wpAny_AugAssign_Name ?_
  have go : wpAny (model X.prog X.w) X.A (eval e X.env) (fun w s₂ => wpAny (model X.prog X.w) X.A (inplaceOp op u w) (fun r s₃ => wpAny (model X.prog X.w) X.A (storeName X.env x r) (fun _ => SP X pins D .next) X.xe s₃) X.xe s₂) X.xe s := by
    refine thn (he pins s σ H _ I h) fun w s1 ⟨y, H1, I1, r1, q1⟩ => ?_
    refine thn (ho pins s1 σ H1 v y u w _ I1 r r1 q1) fun z s2 ⟨zv, H2, I2, r2, q2⟩ => ?_
    exact store_ok I2 hN hi hx r2 (fun s3 I3 => ⟨_, H2, I3, q2⟩) hf
  rcases l with ⟨hk, hm⟩ | ⟨hk, c, hc, hcell⟩
  · exact wpAny_loadName_local I.ok.kind hk hn hm go
  · rcases hk with hk | hk
    · exact wpAny_loadName_cell I.ok.kind hk hc hcell go
    · rcases hx with k | k
      · have : X.env.scope.names.lookup x = some .free := hk
        rw [k] at this; cases this
      · have : X.env.scope.names.lookup x = some .free := hk
        rw [k] at this; cases this
def tAugS (to ti te : TE) (tget : V → V → Hp → VK → Prop) (tip : TIp) (tset : TSet) : TS := fun D σ H => to σ H fun o H1 => ti σ H1 fun i H2 => tget o i H2 fun x H3 => te σ H3 fun y H4 => tip x y H4 fun z H5 => tset o i z H5 fun H6 => D.nx σ H6
def PGet (X : Cx) (t : V → V → Hp → VK → Prop) : Prop :=
  ∀ (pins : List (Addr × Obj)) (s : Shared) (σ : St) (H : Hp) (o i : V) (ov iv : Value) (Q : VK), Inv X pins σ H s → RelV o ov → RelV i iv → t o i H Q →
    wpAny (model X.prog X.w) X.A (getItem ov iv) (EP X pins σ Q) X.xe s
theorem ps_augS {o i e : Expr} {to ti te : TE} {tget : V → V → Hp → VK → Prop} {tip : TIp} {tset : TSet} {op : Operator} {tpos : Pos} (ho : PE X o to) (hi : PE X i ti) (hg : PGet X tget) (he : PE X e te) (hp : PIp X op tip) (hs : PSet X tset)
    (ha : ∀ ov iv new, augStore i ov iv new = (do holding [new, ov, iv] (setItem ov iv new); release [new, ov, iv] []; pure .next) := by intros; rfl) : PS X (.AugAssign (.Subscript o i tpos) op e pos) (tAugS to ti te tget tip tset) := by
  intro pins s σ H D I h
  refine wpAny_AugAssign_SubscriptAny (thn (ho pins s σ H _ I h) fun ov s1 ⟨x1, H1, I1, r1, q1⟩ => ?_) ha
  refine thn (hi pins s1 σ H1 _ I1 q1) fun iv s2 ⟨x2, H2, I2, r2, q2⟩ => ?_
  refine thn (hg pins s2 σ H2 x1 x2 ov iv _ I2 r1 r2 q2) fun old s3 ⟨x3, H3, I3, r3, q3⟩ => ?_
  refine thn (he pins s3 σ H3 _ I3 q3) fun v s4 ⟨x4, H4, I4, r4, q4⟩ => ?_
  refine thn (hp pins s4 σ H4 x3 x4 old v _ I4 r3 r4 q4) fun new s5 ⟨x5, H5, I5, r5, q5⟩ => ?_
  exact thn (hs pins s5 σ H5 x1 x2 x5 ov iv new _ I5 r1 r2 r5 q5) fun _ s6 ⟨H6, I6, q6⟩ => ⟨σ, H6, I6, q6⟩
def ipI (f : Int → Int → Int) : TIp := fun x y H Q => ∃ i j, x = .int i ∧ y = .int j ∧ Q (.int (f i j)) H
theorem ip_add : PIp X .Add (ipI fun i j => i + j) := by
  intro pins s σ H x y v u Q I r1 r2 h
  obtain ⟨i, j, e1, e2, q⟩ := h
  subst e1; subst e2
  obtain ⟨t, rfl⟩ := r1
  obtain ⟨t', rfl⟩ := r2
  exact iadd_int ⟨.int _, H, I.tok _, ⟨_, rfl⟩, q⟩
theorem ip_sub : PIp X .Sub (ipI fun i j => i - j) := by
  intro pins s σ H x y v u Q I r1 r2 h
  obtain ⟨i, j, e1, e2, q⟩ := h
  subst e1; subst e2
  obtain ⟨t, rfl⟩ := r1
  obtain ⟨t', rfl⟩ := r2
  exact isub_int ⟨.int _, H, I.tok _, ⟨_, rfl⟩, q⟩
end

section
variable {X : Cx} {pos : Pos}
def tWhile (c : TT) (tb : TS) : TS := fun D σ H => ∃ W : Nat → St → Hp → Prop, (∃ m, W m σ H) ∧ ∀ m σ H, W m σ H →
  c σ H fun b H1 => if b = true then ∃ N : St → Hp → Prop, (∀ σ' H', N σ' H' → ∃ m', m' < m ∧ W m' σ' H') ∧ tb { D with nx := N, ct := N, bk := D.nx } σ H1 else D.nx σ H1
theorem ps_while {c : Expr} {body : List Stmt} {tc : TT} {tb : TS} (hp : PassesOwn (model X.prog X.w) X.A X.env X.xe) (hc : PT X c tc) (hb : PSs X body tb) : PS X (.While c body [] pos) (tWhile tc tb) := by
  intro pins s σ H D I h
  obtain ⟨W, ⟨m0, w0⟩, turn⟩ := h
  refine wpAny_While (codeAny_whileLoop (fun n s' => ∃ σ' H', Inv X pins σ' H' s' ∧ W n σ' H') ?_ m0 ⟨σ, H, I, w0⟩)
  rintro n s1 ⟨σ1, H1, I1, w1⟩
  refine wpAny_passesOwn hp (thn (hc pins s1 σ1 H1 _ I1 (turn n σ1 H1 w1)) fun b s2 ⟨H2, I2, q2⟩ => ?_)
  cases b with
  | true =>
    obtain ⟨N, hN, q2⟩ := q2
    rw [if_pos rfl]
    refine wpAny_passesOwn hp (thn (hb pins s2 σ1 H2 _ I2 q2) fun f s3 q3 => ?_)
    cases f with
    | next =>
      obtain ⟨σ3, H3, I3, n3⟩ := q3
      obtain ⟨m', hm, w3⟩ := hN σ3 H3 n3
      exact ⟨m', hm, σ3, H3, I3, w3⟩
    | cont =>
      obtain ⟨σ3, H3, I3, n3⟩ := q3
      obtain ⟨m', hm, w3⟩ := hN σ3 H3 n3
      exact ⟨m', hm, σ3, H3, I3, w3⟩
    | brk => exact q3
    | ret v => exact q3
  | false =>
    rw [if_neg Bool.false_ne_true]
    exact wpAny_execs_nil ⟨σ1, H2, I2, q2⟩
end

structure It where
  go : Nat → Hp → Prop
  yld : Nat → Hp → V → Hp → Prop
  stop : Nat → Hp → Prop
def FpOk (X : Cx) (pins : List (Addr × Obj)) (H : Hp) (b : Addr) : Prop :=
  H b = none ∧ b ≠ X.env.locals ∧ b ∉ X.fs ∧ (b ∈ X.ex ∨ X.s₀.heap.objs.size ≤ b) ∧ (∀ x c, X.env.cells.lookup x = some c → c ≠ b) ∧ ∀ p ∈ X.pn ++ pins, p.1 ≠ b
theorem Inv.fpOk {X : Cx} {pins : List (Addr × Obj)} {σ : St} {H H' : Hp} {s : Shared} {b : Addr} (I : Inv X pins σ H s) (hb : s.heap.objs.size ≤ b) (hn : H' b = none) : FpOk X pins H' b := by
  refine ⟨hn, Nat.ne_of_gt (Nat.lt_of_lt_of_le I.lt hb), I.nofs hb, .inr (Nat.le_trans I.sz hb), fun x c e z => ?_, fun p hp z => ?_⟩
  · obtain ⟨v, q⟩ := I.cell x c e
    exact absurd (Nat.lt_of_lt_of_le q.lt (by rw [z]; exact hb)) (Nat.lt_irrefl _)
  · exact absurd (Nat.lt_of_lt_of_le (Heap.lt_size (I.pin p hp).1) (by rw [z]; exact hb)) (Nat.lt_irrefl _)
structure Turn (P : Program) (w : World) (K : PySem.W.Frag) (tg : Expr) (J : It) (fp : List Addr) (it : Addr) (tn : Nat → Heap → Prop) : Prop where
  mem : it ∈ fp
  obj : ∀ i h, tn i h → ∀ b ∈ fp, ∃ o, h.get? b = some o ∧ ∀ v, o.data ≠ .cell v
  keep : ∀ i h h', tn i h → (∀ b ∈ fp, ∀ o, h.get? b = some o → h'.get? b = some o) → tn i h'
  item : ∀ (X : Cx), X.prog = P → X.w = w → X.K = K → X.calm = true → ∀ (i : Nat) (pins : List (Addr × Obj)) (s : Shared) (σ : St) (H : Hp) (E : Value → Shared → Prop), Inv X pins σ H s → (∀ b ∈ fp, FpOk X pins H b) → tn i s.heap → J.go i H →
    wpAny (model P w) X.A (pyNext (.ref it)) (fun r s1 => ∃ u, r = some u ∧
      wpAny (model P w) X.A (letOwnedTupleGo tg (.ref it) u) (fun _ s2 => ∃ x H', Inv X pins σ H' s2 ∧ RelV x u ∧ J.yld i H x H' ∧ tn (i + 1) s2.heap ∧ ∀ b ∈ fp, H' b = none) E s1) E s
  done : ∀ (X : Cx), X.prog = P → X.w = w → X.K = K → X.calm = true → ∀ (i : Nat) (pins : List (Addr × Obj)) (s : Shared) (σ : St) (H : Hp) (E : Value → Shared → Prop), Inv X pins σ H s → (∀ b ∈ fp, FpOk X pins H b) → tn i s.heap → J.stop i H →
    wpAny (model P w) X.A (pyNext (.ref it)) (fun r s1 => r = none ∧ Inv X pins σ H s1) E s
  self : ∀ (A : Around) (i : Nat) (s : Shared) (Q : Value → Shared → Prop) (E : Value → Shared → Prop), tn i s.heap → Q (.ref it) s → wpAny (model P w) A (pyIter (.ref it)) Q E s
abbrev TI := St → Hp → (It → Hp → Prop) → Prop
def PIE (X : Cx) (pins : List (Addr × Obj)) (σ : St) (tg : Expr) (R : It → Hp → Prop) (itv : Value) (s2 : Shared) : Prop :=
  ∃ (it : Addr) (fp : List Addr) (tn : Nat → Heap → Prop) (J : It) (H' : Hp), itv = .ref it ∧ Inv X pins σ H' s2 ∧ Turn X.prog X.w X.K tg J fp it tn ∧ tn 0 s2.heap ∧ (∀ b ∈ fp, FpOk X pins H' b) ∧ R J H'
def PI (X : Cx) (tg iter : Expr) (wi : TI) : Prop :=
  ∀ (pins : List (Addr × Obj)) (s : Shared) (σ : St) (H : Hp) (R : It → Hp → Prop), Inv X pins σ H s → wi σ H R →
    wpAny (model X.prog X.w) X.A (eval iter X.env) (fun v s1 => wpAny (model X.prog X.w) X.A (pyIter v) (PIE X pins σ tg R) X.xe s1) X.xe s

theorem go_of {M : Model} {A : Around} {E : Value → Shared → Prop} {s : Shared} {tg : Expr} {it : Addr} {u : Value} {o : Obj} {n : String} {vs : Array Value} {Q : Unit → Shared → Prop} (ho : s.heap.get? it = some o) (hc : o.cls = .type n) (hd : o.data = .fields vs)
    (hn : ["enumerate", "zip", "dict_itemiterator", "dict_reverseitemiterator", "odict_iterator", "itertools.zip_longest", "itertools.pairwise"].contains n = false) (hQ : Q () s) : wpAny M A (letOwnedTupleGo tg (.ref it) u) Q E s := by
  unfold letOwnedTupleGo
  cases tg <;> first
    | exact wpAny_pure hQ
    | (cases u <;> first
        | exact wpAny_pure hQ
        | (refine wpAny_bind (wpAny_load ho ?_)
           rw [hc, hd]
           show wpAny M A (if (["enumerate", "zip", "dict_itemiterator", "dict_reverseitemiterator", "odict_iterator", "itertools.zip_longest", "itertools.pairwise"].contains n && vs[0]? == some (rawInt _)) = true then _ else _) Q E s
           rw [if_neg (by intro h; rw [hn, Bool.false_and] at h; cases h)]
           exact wpAny_pure hQ))

def Itl (K : PySem.W.Frag) (a : Addr) : It :=
  ⟨fun i H => ∃ xs x, SqL K H a xs ∧ xs[i]? = some x, fun i H x H' => H' = H ∧ ∀ xs, SqL K H a xs → xs[i]? = some x, fun i H => ∃ xs, SqL K H a xs ∧ xs.length ≤ i⟩
def Itt (K : PySem.W.Frag) (a : Addr) : It :=
  ⟨fun i H => ∃ xs x, SqT K H a xs ∧ xs[i]? = some x, fun i H x H' => H' = H ∧ ∀ xs, SqT K H a xs → xs[i]? = some x, fun i H => ∃ xs, SqT K H a xs ∧ xs.length ≤ i⟩
def Itr (lo : Int) (n : Nat) : It := ⟨fun i _ => i < n, fun i H x H' => H' = H ∧ x = .int (lo + i), fun i _ => n ≤ i⟩
theorem turn_list {P : Program} {w : World} {K : PySem.W.Frag} {tg : Expr} (a it : Addr) : Turn P w K tg (Itl K a) [it] it (fun i h => h.IsListIter it a i) where
  mem := by simp
  obj := fun i h st b hb => by
    have e : b = it := by simpa using hb
    subst e
    obtain ⟨o, e, c, d⟩ := st
    exact ⟨o, e, fun v z => by rw [d] at z; cases z⟩
  keep := fun i h h' st k => st.at fun o e => k it (by simp) o e
  item := by
    intro X hP hw hK hc i pins s σ H E I hf st hg
    subst hP hw hK
    obtain ⟨xs, x, hq, hx⟩ := hg
    obtain ⟨its, rv, p, hz⟩ := I.list hq
    obtain ⟨u, hu, ru⟩ := rv.get hx
    obtain ⟨f0, f1, f2, f3, f4, f5⟩ := hf it (by simp)
    refine wpAny_pyNext_list_item st p.isList (x := u) (by simpa using hu) fun h' st' sb => ?_
    have I1 : Inv X pins σ H { s with heap := h' } := I.turned (t' := s.toks) (fun b o hb e => (sb.2 b hb).trans e) f0 f1 f3 f4 f5
    obtain ⟨o, e, c, d⟩ := id st'
    exact ⟨u, rfl, go_of (s := { s with heap := h' }) e c d (by decide) ⟨x, H, I1, ru, ⟨rfl, fun ys hy => by rw [I.list_inj hy hq]; exact hx⟩, st', fun b hb => (hf b hb).1⟩⟩
  done := by
    intro X hP hw hK hc i pins s σ H E I hf st hg
    subst hP hw hK
    obtain ⟨xs, hq, hx⟩ := hg
    obtain ⟨its, rv, p, hz⟩ := I.list hq
    obtain ⟨f0, f1, f2, f3, f4, f5⟩ := hf it (by simp)
    have hl := rv.length
    exact wpAny_pyNext_list_end (I.ok.hd hc) st p.isList (by simp; omega) fun h' eb => ⟨rfl, I.turned (t' := s.toks) (fun b o hb e => eb b o hb e) f0 f1 f3 f4 f5⟩
  self := fun _ _ _ _ _ st h => wpAny_pyIter_listiter st h
theorem turn_tuple {P : Program} {w : World} {K : PySem.W.Frag} {tg : Expr} (a it : Addr) : Turn P w K tg (Itt K a) [it] it (fun i h => h.IsTupleIter it a i) where
  mem := by simp
  obj := fun i h st b hb => by
    have e : b = it := by simpa using hb
    subst e
    obtain ⟨o, e, c, d⟩ := st
    exact ⟨o, e, fun v z => by rw [d] at z; cases z⟩
  keep := fun i h h' st k => st.at fun o e => k it (by simp) o e
  item := by
    intro X hP hw hK hc i pins s σ H E I hf st hg
    subst hP hw hK
    obtain ⟨xs, x, hq, hx⟩ := hg
    obtain ⟨its, rv, p, hz⟩ := I.tuple hq
    obtain ⟨u, hu, ru⟩ := rv.get hx
    obtain ⟨f0, f1, f2, f3, f4, f5⟩ := hf it (by simp)
    refine wpAny_pyNext_tuple_item st (show s.heap.IsTuple a its.toArray from p) (x := u) (by simpa using hu) fun h' st' sb => ?_
    have I1 : Inv X pins σ H { s with heap := h' } := I.turned (t' := s.toks) (fun b o hb e => (sb.2 b hb).trans e) f0 f1 f3 f4 f5
    obtain ⟨o, e, c, d⟩ := id st'
    exact ⟨u, rfl, go_of (s := { s with heap := h' }) e c d (by decide) ⟨x, H, I1, ru, ⟨rfl, fun ys hy => by rw [I.tuple_inj hy hq]; exact hx⟩, st', fun b hb => (hf b hb).1⟩⟩
  done := by
    intro X hP hw hK hc i pins s σ H E I hf st hg
    subst hP hw hK
    obtain ⟨xs, hq, hx⟩ := hg
    obtain ⟨its, rv, p, hz⟩ := I.tuple hq
    obtain ⟨f0, f1, f2, f3, f4, f5⟩ := hf it (by simp)
    have hl := rv.length
    exact wpAny_pyNext_tuple_end (I.ok.hd hc) st (show s.heap.IsTuple a its.toArray from p) (by simp; omega) fun h' eb => ⟨rfl, I.turned (t' := s.toks) (fun b o hb e => eb b o hb e) f0 f1 f3 f4 f5⟩
  self := fun _ _ _ _ _ st h => wpAny_pyIter_tupleiter st h
theorem turn_range {P : Program} {w : World} {K : PySem.W.Frag} {tg : Expr} (it : Addr) (lo : Int) (n : Nat) : Turn P w K tg (Itr lo n) [it] it (fun i h => IsRangeIter h it (lo + (i : Nat) * 1) ((n : Int) - (i : Nat)) 1) where
  mem := by simp
  obj := fun i h st b hb => by
    have e : b = it := by simpa using hb
    subst e
    exact ⟨_, st, fun v z => by
      have z' : Data.fields _ = Data.cell v := z
      cases z'⟩
  keep := fun i h h' st k => k it (by simp) _ st
  item := by
    intro X hP hw hK hc i pins s σ H E I hf st hg
    subst hP hw hK
    obtain ⟨f0, f1, f2, f3, f4, f5⟩ := hf it (by simp)
    have W := Walks.range (prog := X.prog) (w := X.w) (I.ok.hd hc) it lo 1 n
    refine W.item i s _ _ hg st fun v h' tk hv st' kk => ?_
    obtain ⟨t, rfl⟩ := hv
    have I1 : Inv X pins σ H { s with heap := h', toks := tk } := I.turned (fun b o hb e => kk b o (by simpa using hb) e) f0 f1 f3 f4 f5
    refine ⟨_, rfl, go_of (s := { s with heap := h', toks := tk }) (n := "range_iterator") st' rfl rfl (by decide) ⟨.int (lo + i), H, I1, ⟨t, ?_⟩, ⟨rfl, rfl⟩, st', fun b hb => (hf b hb).1⟩⟩
    rw [Int.mul_one]
  done := by
    intro X hP hw hK hc i pins s σ H E I hf st hg
    subst hP hw hK
    obtain ⟨f0, f1, f2, f3, f4, f5⟩ := hf it (by simp)
    exact wpAny_pyNext_range_end (I.ok.hd hc) st (by have : n ≤ i := hg; omega) fun h' eb => ⟨rfl, I.turned (t' := s.toks) (fun b o hb e => eb b o hb e) f0 f1 f3 f4 f5⟩
  self := fun _ _ _ _ _ st h => wpAny_pyIter_rangeiter st h
end L2

namespace L2
open PySem PySem.Spec PyProof.Rows
section
variable {X : Cx} {tg : Expr}
def iList (K : PySem.W.Frag) (tl : TE) : TI := fun σ H R => tl σ H fun x H1 => ∃ a, x = .ref a ∧ (∃ xs, SqL K H1 a xs) ∧ R (Itl K a) H1
def iTup (K : PySem.W.Frag) (tl : TE) : TI := fun σ H R => tl σ H fun x H1 => ∃ a, x = .ref a ∧ (∃ xs, SqT K H1 a xs) ∧ R (Itt K a) H1
theorem pi_list {l : Expr} {tl : TE} (hl : PE X l tl) : PI X tg l (iList X.K tl) := by
  intro pins s σ H R I h
  refine thn (hl pins s σ H _ I h) fun v s1 ⟨x, H1, I1, r1, q1⟩ => ?_
  obtain ⟨a, e, ⟨xs, hq⟩, q⟩ := q1
  subst e
  cases r1
  obtain ⟨its, rv, p, hz⟩ := I1.list hq
  refine wpAny_pyIter_list p.isList ?_
  refine ⟨s1.heap.objs.size, [s1.heap.objs.size], _, _, H1, rfl, I1.kept (t' := s1.toks) fun b o e => Heap.get?_push_of_some _ e, turn_list a _, ⟨_, Heap.get?_push_size _ rfl, rfl, rfl⟩, fun b hb => ?_, q⟩
  have e : b = s1.heap.objs.size := by simpa using hb
  subst e
  exact I1.fpOk (Nat.le_refl _) (I1.hok.fresh (Nat.le_refl _))
theorem pi_tup {l : Expr} {tl : TE} (hl : PE X l tl) : PI X tg l (iTup X.K tl) := by
  intro pins s σ H R I h
  refine thn (hl pins s σ H _ I h) fun v s1 ⟨x, H1, I1, r1, q1⟩ => ?_
  obtain ⟨a, e, ⟨xs, hq⟩, q⟩ := q1
  subst e
  cases r1
  obtain ⟨its, rv, p, hz⟩ := I1.tuple hq
  refine wpAny_pyIter_tuple (show s1.heap.IsTuple a its.toArray from p) ?_
  refine ⟨s1.heap.objs.size, [s1.heap.objs.size], _, _, H1, rfl, I1.kept (t' := s1.toks) fun b o e => Heap.get?_push_of_some _ e, turn_tuple a _, ⟨_, Heap.get?_push_size _ rfl, rfl, rfl⟩, fun b hb => ?_, q⟩
  have e : b = s1.heap.objs.size := by simpa using hb
  subst e
  exact I1.fpOk (Nat.le_refl _) (I1.hok.fresh (Nat.le_refl _))
theorem range_it {pins : List (Addr × Obj)} {σ : St} {H : Hp} {s : Shared} {R : It → Hp → Prop} {E : Value → Shared → Prop} {lo hi : Int} {t u v : Tok} {tk : Nat} (I : Inv X pins σ H s) (h1 : -(2 ^ 62) ≤ lo) (h2 : lo < 2 ^ 62) (h3 : -(2 ^ 62) ≤ hi) (h4 : hi < 2 ^ 62)
    (q : R (Itr lo (hi - lo).toNat) H) : wpAny (model X.prog X.w) X.A (pyIter (.ref s.heap.objs.size)) (PIE X pins σ tg R) E { s with heap := s.heap.push { cls := .type "range", data := .fields #[.int lo t, .int hi u, .int 1 v] }, toks := tk } := by
  refine wpAny_pyIter_range (IsRange.new ..) (small_one h1 h2 h3 h4) ?_
  have I1 : Inv X pins σ H { s with heap := s.heap.push { cls := .type "range", data := .fields #[.int lo t, .int hi u, .int 1 v] }, toks := tk } := I.kept fun b o e => Heap.get?_push_of_some _ e
  refine ⟨(s.heap.push { cls := .type "range", data := .fields #[.int lo t, .int hi u, .int 1 v] }).objs.size, [(s.heap.push { cls := .type "range", data := .fields #[.int lo t, .int hi u, .int 1 v] }).objs.size], _, _, H, rfl,
    I1.kept (t' := tk) fun b o e => Heap.get?_push_of_some _ e, turn_range _ lo (hi - lo).toNat, ?_, fun b hb => ?_, q⟩
  · have e1 : lo + ((0 : Nat) : Int) * 1 = lo := by simp
    have e2 : (((hi - lo).toNat : Nat) : Int) - ((0 : Nat) : Int) = Builtin.Range.rangeSize lo hi 1 := by rw [rangeSize_one]; split <;> omega
    show IsRangeIter _ _ (lo + ((0 : Nat) : Int) * 1) ((((hi - lo).toNat : Nat) : Int) - ((0 : Nat) : Int)) 1
    rw [e1, e2]
    exact Heap.get?_push_size _ rfl
  · have e : b = (s.heap.push { cls := .type "range", data := .fields #[.int lo t, .int hi u, .int 1 v] }).objs.size := by simpa using hb
    subst e
    exact I1.fpOk (Nat.le_refl _) (I1.hok.fresh (Nat.le_refl _))
def iRng1 (ta : TA) : TI := fun σ H R => ta σ H fun vs H1 => ∃ j : Int, vs = [.int j] ∧ -(2 ^ 62) ≤ j ∧ j < 2 ^ 62 ∧ R (Itr 0 j.toNat) H1
def iRng2 (ta : TA) : TI := fun σ H R => ta σ H fun vs H1 => ∃ i j : Int, vs = [.int i, .int j] ∧ (-(2 ^ 62) ≤ i ∧ i < 2 ^ 62 ∧ -(2 ^ 62) ≤ j ∧ j < 2 ^ 62) ∧ R (Itr i (j - i).toNat) H1
theorem pi_range1 {a : Expr} {ta : TA} {p pos : Pos} (hg : Gl X "range") (hm : X.mg "range" = none) (ha : PA X [a] ta) (hs : starEach [a] X.env = [(false, eval a X.env)] := by rfl) : PI X tg (.Call (.Name "range" p) [a] [] pos) (iRng1 ta) := by
  intro pins s σ H R I h
  refine Call_ (ld_blt I hg hm boot_range (PyProof.Rows.callWith_type1 (thn (ha pos pins s σ H _ I h) fun us s1 ⟨vs, H1, I1, r1, q1⟩ => ?_) hs rfl))
  obtain ⟨j, e, q1, q2, q⟩ := q1
  subst e
  cases r1 with
  | cons r rr =>
    cases rr
    obtain ⟨t, rfl⟩ := r
    exact call_range_1 (range_it I1 (by omega) (by omega) q1 q2 (by simpa using q))
theorem pi_range2 {a b : Expr} {ta : TA} {p pos : Pos} (hg : Gl X "range") (hm : X.mg "range" = none) (ha : PA X [a, b] ta) (hs : starEach [a, b] X.env = [(false, eval a X.env), (false, eval b X.env)] := by rfl) (hs2 : starEach [b] X.env = [(false, eval b X.env)] := by rfl) :
    PI X tg (.Call (.Name "range" p) [a, b] [] pos) (iRng2 ta) := by
  intro pins s σ H R I h
  refine Call_ (ld_blt I hg hm boot_range (PyProof.Rows.callWith_type1 (thn (ha pos pins s σ H _ I h) fun us s1 ⟨vs, H1, I1, r1, q1⟩ => ?_) (by rw [hs, hs2]) (by rw [hs2]; rfl)))
  obtain ⟨i, j, e, ⟨q1, q2, q3, q4⟩, q⟩ := q1
  subst e
  cases r1 with
  | cons r rr =>
    cases rr with
    | cons r' rr =>
      cases rr
      obtain ⟨t, rfl⟩ := r
      obtain ⟨t', rfl⟩ := r'
      exact call_range_2 (range_it I1 q1 q2 q3 q4 q)

def tFor (wi : TI) (g : TG) (tb : TS) : TS := fun D σ H => wi σ H fun J H1 => ∃ W : Nat → Nat → St → Hp → Prop, (∃ m, W 0 m σ H1) ∧ ∀ i m σ H, W i m σ H →
  (J.stop i H ∧ D.nx σ H) ∨ (J.go i H ∧ ∃ N : St → Hp → Prop, (∀ σ' H', N σ' H' → ∃ m', m' < m ∧ W (i + 1) m' σ' H') ∧ ∀ x H', J.yld i H x H' → g x σ H' fun σ2 H2 => tb { D with nx := N, ct := N, bk := D.nx } σ2 H2)
def pinsAt (fp : List Addr) (h : Heap) : List (Addr × Obj) := fp.filterMap fun b => (h.get? b).map fun o => (b, o)
theorem mem_pinsAt {fp : List Addr} {h : Heap} {b : Addr} {o : Obj} (hb : b ∈ fp) (e : h.get? b = some o) : (b, o) ∈ pinsAt fp h := List.mem_filterMap.mpr ⟨b, hb, by rw [e]; rfl⟩
theorem of_pinsAt {fp : List Addr} {h : Heap} {p : Addr × Obj} (hp : p ∈ pinsAt fp h) : p.1 ∈ fp ∧ h.get? p.1 = some p.2 := by
  obtain ⟨b, hb, e⟩ := List.mem_filterMap.mp hp
  cases q : h.get? b with
  | none => rw [q] at e; cases e
  | some o =>
    rw [q] at e
    have e' : (b, o) = p := Option.some.inj e
    subst e'
    exact ⟨hb, q⟩
theorem Inv.pinned {pins : List (Addr × Obj)} {σ : St} {H : Hp} {s : Shared} {fp : List Addr} (I : Inv X pins σ H s) (hf : ∀ b ∈ fp, FpOk X pins H b) (ho : ∀ b ∈ fp, ∃ o, s.heap.get? b = some o ∧ ∀ v, o.data ≠ .cell v) : Inv X (pins ++ pinsAt fp s.heap) σ H s :=
  I.pins_of fun p hp => (List.mem_append.mp hp).elim (fun z => I.pin p (List.mem_append_right _ z)) fun z => by
    obtain ⟨hb, e⟩ := of_pinsAt z
    obtain ⟨f0, f1, f2, _⟩ := hf p.1 hb
    obtain ⟨o, e', d⟩ := ho p.1 hb
    rw [e] at e'; cases e'
    exact ⟨e, f0, f1, f2, d⟩
theorem Inv.unpinned {pins pl : List (Addr × Obj)} {σ : St} {H : Hp} {s : Shared} (I : Inv X (pins ++ pl) σ H s) : Inv X pins σ H s := I.pins_of fun p hp => I.pin p (List.mem_append_right _ (List.mem_append_left _ hp))
theorem ps_for {iter : Expr} {body : List Stmt} {wi : TI} {g : TG} {tb : TS} {pos : Pos} (hp : PassesOwn (model X.prog X.w) X.A X.env X.xe) (hc : X.calm = true) (hi : PI X tg iter wi) (hg : PG X tg g) (hb : PSs X body tb)
    (hs : ∀ x, foldedSetIterable iter X.env x = pure x := by intro _; rfl) : PS X (.For tg iter body [] pos) (tFor wi g tb) := by
  intro pins s σ H D I h
  refine wpAny_For (thn (hi pins s σ H _ I h) fun v s1 h1 => thn h1 fun itv s2 h2 => ?_) hs
  obtain ⟨it, fp, tn, J, H2, e, I2, T, st2, f2, W, ⟨m0, w0⟩, turn⟩ := h2
  subst e
  -- what stays true of the iterator's objects through the loop
  have stat : ∀ {H' : Hp}, (∀ b ∈ fp, H' b = none) → ∀ b ∈ fp, FpOk X pins H' b := fun hn b hb => ⟨hn b hb, (f2 b hb).2⟩
  refine codeAny_forLoop_any (fun n s' => ∃ i σ' H', Inv X pins σ' H' s' ∧ tn i s'.heap ∧ (∀ b ∈ fp, H' b = none) ∧ W i n σ' H') ?_ m0 ⟨0, σ, H2, I2, st2, fun b hb => (f2 b hb).1, w0⟩
  rintro n s3 ⟨i, σ3, H3, I3, st3, fr3, w3⟩
  rcases turn i n σ3 H3 w3 with ⟨stop, qn⟩ | ⟨go, N, hN, step⟩
  · refine wpAny_passesOwn hp (thn (T.done X rfl rfl rfl hc i pins s3 σ3 H3 X.xe I3 (stat fr3) st3 stop) fun r s4 ⟨hr, I4⟩ => ?_)
    subst hr
    exact wpAny_execs_nil ⟨σ3, H3, I4, qn⟩
  · refine wpAny_passesOwn hp (thn (T.item X rfl rfl rfl hc i pins s3 σ3 H3 X.xe I3 (stat fr3) st3 go) fun r s4 ⟨u, hr, h4⟩ => ?_)
    subst hr
    refine wpAny_passesOwn hp (thn h4 fun _ s5 ⟨x, H5, I5, r5, y5, st5, fr5⟩ => ?_)
    have I5' := I5.pinned (stat fr5) (T.obj _ _ st5)
    refine wpAny_passesOwn hp (thn (hg _ s5 σ3 H5 x u _ I5' r5 (step x H5 y5)) fun _ s6 ⟨σ6, H6, I6, q6⟩ => ?_)
    refine wpAny_passesOwn hp (thn (hb _ s6 σ6 H6 _ I6 q6) fun f s7 q7 => ?_)
    have again : ∀ {σ7 : St} {H7 : Hp}, Inv X (pins ++ pinsAt fp s5.heap) σ7 H7 s7 → N σ7 H7 → ∃ m, m < n ∧ ∃ i σ' H', Inv X pins σ' H' s7 ∧ tn i s7.heap ∧ (∀ b ∈ fp, H' b = none) ∧ W i m σ' H' := fun {σ7 H7} I7 n7 => by
      obtain ⟨m', hm, w7⟩ := hN σ7 H7 n7
      refine ⟨m', hm, i + 1, σ7, H7, I7.unpinned, T.keep _ _ _ st5 fun b hb o e => (I7.pin (b, o) (List.mem_append_right _ (List.mem_append_right _ (mem_pinsAt hb e)))).1, fun b hb => ?_, w7⟩
      obtain ⟨o, e, d⟩ := T.obj _ _ st5 b hb
      exact (I7.pin (b, o) (List.mem_append_right _ (List.mem_append_right _ (mem_pinsAt hb e)))).2.1
    cases f with
    | next => obtain ⟨σ7, H7, I7, n7⟩ := q7; exact again I7 n7
    | cont => obtain ⟨σ7, H7, I7, n7⟩ := q7; exact again I7 n7
    | brk => obtain ⟨σ7, H7, I7, q7⟩ := q7; exact ⟨σ7, H7, I7.unpinned, q7⟩
    | ret v => obtain ⟨x7, σ7, H7, I7, r7, q7⟩ := q7; exact ⟨x7, σ7, H7, I7.unpinned, r7, q7⟩
end

theorem for_list {K : PySem.W.Frag} {a : Addr} {xs : List V} {g : TG} {tb : TS} {D : Ends} {σ : St} {H : Hp} (Pv : Nat → St → Hp → Prop) (h0 : Pv 0 σ H) (hl : ∀ i σ H, i ≤ xs.length → Pv i σ H → SqL K H a xs)
    (hs : ∀ i x σ H, xs[i]? = some x → Pv i σ H → g x σ H fun σ2 H2 => tb { D with nx := Pv (i + 1), ct := Pv (i + 1), bk := D.nx } σ2 H2) (hd : ∀ σ H, Pv xs.length σ H → D.nx σ H) :
    ∃ W : Nat → Nat → St → Hp → Prop, (∃ m, W 0 m σ H) ∧ ∀ i m σ H, W i m σ H →
      ((Itl K a).stop i H ∧ D.nx σ H) ∨ ((Itl K a).go i H ∧ ∃ N : St → Hp → Prop, (∀ σ' H', N σ' H' → ∃ m', m' < m ∧ W (i + 1) m' σ' H') ∧ ∀ x H', (Itl K a).yld i H x H' → g x σ H' fun σ2 H2 => tb { D with nx := N, ct := N, bk := D.nx } σ2 H2) := by
  refine ⟨fun i m σ H => m = xs.length - i ∧ i ≤ xs.length ∧ Pv i σ H, ⟨xs.length, by simp, Nat.zero_le _, h0⟩, ?_⟩
  rintro i m σ H ⟨rfl, hi, p⟩
  have q := hl i σ H hi p
  by_cases hlt : i < xs.length
  · refine .inr ⟨⟨xs, xs[i], q, by simp [hlt]⟩, Pv (i + 1), fun σ' H' p' => ⟨xs.length - (i + 1), by omega, rfl, hlt, p'⟩, fun x H' y => ?_⟩
    obtain ⟨e, y⟩ := y
    subst e
    exact hs i x σ _ (y xs q) p
  · have e : i = xs.length := by omega
    subst e
    exact .inl ⟨⟨xs, q, Nat.le_refl _⟩, hd σ H p⟩
theorem for_tup {K : PySem.W.Frag} {a : Addr} {xs : List V} {g : TG} {tb : TS} {D : Ends} {σ : St} {H : Hp} (Pv : Nat → St → Hp → Prop) (h0 : Pv 0 σ H) (hl : ∀ i σ H, i ≤ xs.length → Pv i σ H → SqT K H a xs)
    (hs : ∀ i x σ H, xs[i]? = some x → Pv i σ H → g x σ H fun σ2 H2 => tb { D with nx := Pv (i + 1), ct := Pv (i + 1), bk := D.nx } σ2 H2) (hd : ∀ σ H, Pv xs.length σ H → D.nx σ H) :
    ∃ W : Nat → Nat → St → Hp → Prop, (∃ m, W 0 m σ H) ∧ ∀ i m σ H, W i m σ H →
      ((Itt K a).stop i H ∧ D.nx σ H) ∨ ((Itt K a).go i H ∧ ∃ N : St → Hp → Prop, (∀ σ' H', N σ' H' → ∃ m', m' < m ∧ W (i + 1) m' σ' H') ∧ ∀ x H', (Itt K a).yld i H x H' → g x σ H' fun σ2 H2 => tb { D with nx := N, ct := N, bk := D.nx } σ2 H2) := by
  refine ⟨fun i m σ H => m = xs.length - i ∧ i ≤ xs.length ∧ Pv i σ H, ⟨xs.length, by simp, Nat.zero_le _, h0⟩, ?_⟩
  rintro i m σ H ⟨rfl, hi, p⟩
  have q := hl i σ H hi p
  by_cases hlt : i < xs.length
  · refine .inr ⟨⟨xs, xs[i], q, by simp [hlt]⟩, Pv (i + 1), fun σ' H' p' => ⟨xs.length - (i + 1), by omega, rfl, hlt, p'⟩, fun x H' y => ?_⟩
    obtain ⟨e, y⟩ := y
    subst e
    exact hs i x σ _ (y xs q) p
  · have e : i = xs.length := by omega
    subst e
    exact .inl ⟨⟨xs, q, Nat.le_refl _⟩, hd σ H p⟩
theorem for_range {lo : Int} {n : Nat} {g : TG} {tb : TS} {D : Ends} {σ : St} {H : Hp} (Pv : Nat → St → Hp → Prop) (h0 : Pv 0 σ H)
    (hs : ∀ i σ H, i < n → Pv i σ H → g (.int (lo + i)) σ H fun σ2 H2 => tb { D with nx := Pv (i + 1), ct := Pv (i + 1), bk := D.nx } σ2 H2) (hd : ∀ σ H, Pv n σ H → D.nx σ H) :
    ∃ W : Nat → Nat → St → Hp → Prop, (∃ m, W 0 m σ H) ∧ ∀ i m σ H, W i m σ H →
      ((Itr lo n).stop i H ∧ D.nx σ H) ∨ ((Itr lo n).go i H ∧ ∃ N : St → Hp → Prop, (∀ σ' H', N σ' H' → ∃ m', m' < m ∧ W (i + 1) m' σ' H') ∧ ∀ x H', (Itr lo n).yld i H x H' → g x σ H' fun σ2 H2 => tb { D with nx := N, ct := N, bk := D.nx } σ2 H2) := by
  refine ⟨fun i m σ H => m = n - i ∧ i ≤ n ∧ Pv i σ H, ⟨n, by simp, Nat.zero_le _, h0⟩, ?_⟩
  rintro i m σ H ⟨rfl, hi, p⟩
  by_cases hlt : i < n
  · refine .inr ⟨hlt, Pv (i + 1), fun σ' H' p' => ⟨n - (i + 1), by omega, rfl, hlt, p'⟩, fun x H' y => ?_⟩
    obtain ⟨e, y⟩ := y
    subst e y
    exact hs i σ _ hlt p
  · have e : i = n := by omega
    subst e
    exact .inl ⟨Nat.le_refl _, hd σ H p⟩
theorem while_by {c : TT} {tb : TS} {D : Ends} {σ : St} {H : Hp} (Pv : St → Hp → Prop) (μ : St → Hp → Nat) (h0 : Pv σ H)
    (hs : ∀ σ H, Pv σ H → c σ H fun b H1 => if b = true then tb { D with nx := fun σ' H' => Pv σ' H' ∧ μ σ' H' < μ σ H, ct := fun σ' H' => Pv σ' H' ∧ μ σ' H' < μ σ H, bk := D.nx } σ H1 else D.nx σ H1)
    (mono : ∀ σ H Q Q', (∀ b H1, Q b H1 → Q' b H1) → c σ H Q → c σ H Q') : tWhile c tb D σ H := by
  refine ⟨fun m σ H => m = μ σ H ∧ Pv σ H, ⟨_, rfl, h0⟩, ?_⟩
  rintro m σ H ⟨rfl, p⟩
  refine mono σ H _ _ (fun b H1 q => ?_) (hs σ H p)
  cases b with
  | true => exact ⟨_, fun σ' H' ⟨p', l⟩ => ⟨_, l, rfl, p'⟩, q⟩
  | false => exact q
end L2

namespace L2
open PySem PySem.Spec PyProof.Rows

abbrev R2 := V → V → Hp → VK → Prop
def OpR (X : Cx) (f : Value → Value → Sem Value) (r : R2) : Prop :=
  ∀ (pins : List (Addr × Obj)) (s : Shared) (σ : St) (H : Hp) (x y : V) (v u : Value) (Q : VK), Inv X pins σ H s → RelV x v → RelV y u → r x y H Q →
    wpAny (model X.prog X.w) X.A (f v u) (EP X pins σ Q) X.xe s
def UnR (X : Cx) (f : Value → Sem Value) (r : V → Hp → VK → Prop) : Prop :=
  ∀ (pins : List (Addr × Obj)) (s : Shared) (σ : St) (H : Hp) (x : V) (v : Value) (Q : VK), Inv X pins σ H s → RelV x v → r x H Q →
    wpAny (model X.prog X.w) X.A (f v) (EP X pins σ Q) X.xe s
def CallR (X : Cx) (f : Value) (r : List V → Hp → VK → Prop) : Prop :=
  ∀ (pins : List (Addr × Obj)) (s : Shared) (σ : St) (H : Hp) (xs : List V) (us : List Value) (Q : VK), Inv X pins σ H s → Vals xs us → r xs H Q →
    wpAny (model X.prog X.w) X.A (call f us) (EP X pins σ Q) X.xe s
def TruR (X : Cx) (r : V → Hp → (Bool → Hp → Prop) → Prop) : Prop :=
  ∀ (pins : List (Addr × Obj)) (s : Shared) (σ : St) (H : Hp) (x : V) (v : Value) (Q : Bool → Hp → Prop), Inv X pins σ H s → RelV x v → r x H Q →
    wpAny (model X.prog X.w) X.A (truthy v) (TP X pins σ Q) X.xe s

def tOp (r : R2) (ta tb : TE) : TE := fun σ H Q => ta σ H fun x H1 => tb σ H1 fun y H2 => r x y H2 Q
def tUn (r : V → Hp → VK → Prop) (ta : TE) : TE := fun σ H Q => ta σ H fun x H1 => r x H1 Q
def rI (C : Int → Int → Prop) (g : Int → Int → V) : R2 := fun x y H Q => ∃ i j, x = .int i ∧ y = .int j ∧ C i j ∧ Q (g i j) H
def rI0 (g : Int → Int → V) : R2 := fun x y H Q => ∃ i j, x = .int i ∧ y = .int j ∧ Q (g i j) H
def rU (g : Int → V) : V → Hp → VK → Prop := fun x H Q => ∃ i, x = .int i ∧ Q (g i) H

section
variable {X : Cx} {a b c : Expr} {ta tb tc : TE} {pos : Pos}

theorem binT (ha : PE X a ta) (hb : PE X b tb) {pins : List (Addr × Obj)} {s : Shared} {σ : St} {H : Hp} {R : V → V → Hp → Prop} (I : Inv X pins σ H s)
    (h : ta σ H fun x H1 => tb σ H1 fun y H2 => R x y H2) {Q : Value → Shared → Prop} {f : Value → Value → Sem Value}
    (hf : ∀ v u s2 x y H2, Inv X pins σ H2 s2 → RelV x v → RelV y u → R x y H2 → wpAny (model X.prog X.w) X.A (f v u) Q X.xe s2) :
    wpAny (model X.prog X.w) X.A (eval a X.env) (fun v s₁ => wpAny (model X.prog X.w) X.A (eval b X.env) (fun u s₂ => wpAny (model X.prog X.w) X.A (f v u) Q X.xe s₂) X.xe s₁) X.xe s := by
  refine thn (ha pins s σ H _ I h) fun v s1 ⟨x, H1, I1, r1, q1⟩ => ?_
  refine thn (hb pins s1 σ H1 _ I1 q1) fun u s2 ⟨y, H2, I2, r2, q2⟩ => ?_
  exact hf v u s2 x y H2 I2 r1 r2 q2

theorem pe_op {op : Operator} {r : R2} (ho : OpR X (binaryOp op) r) (ha : PE X a ta) (hb : PE X b tb) : PE X (.BinOp a op b pos) (tOp r ta tb) := by
  intro pins s σ H Q I h
  exact wpAny_BinOp (binT ha hb I h fun v u s2 x y H2 I2 rx ry q => ho pins s2 σ H2 x y v u Q I2 rx ry q)
theorem pe_un {op : UnaryOp} {r : V → Hp → VK → Prop} (ho : UnR X (unaryOp op) r) (ha : PE X a ta) : PE X (.UnaryOp op a pos) (tUn r ta) := by
  intro pins s σ H Q I h
  exact UnaryOp_ (thn (ha pins s σ H _ I h) fun v s1 ⟨x, H1, I1, r1, q1⟩ => ho pins s1 σ H1 x v Q I1 r1 q1)
theorem augR {op : Operator} {r : R2} (ho : OpR X (inplaceOp op) r) {pins : List (Addr × Obj)} {s : Shared} {σ : St} {H : Hp} {x y : V} {v u : Value} {Q : VK} (I : Inv X pins σ H s)
    (rx : RelV x v) (ry : RelV y u) (q : r x y H Q) : wpAny (model X.prog X.w) X.A (inplaceOp op v u) (EP X pins σ Q) X.xe s := ho pins s σ H x y v u Q I rx ry q

theorem opI {f : Value → Value → Sem Value} {C : Int → Int → Prop} {g : Int → Int → Int}
    (rule : ∀ (i j : Int) (t u : Tok) (s : Shared) (Q : Value → Shared → Prop) (E : Value → Shared → Prop), C i j → Q (.int (g i j) s.toks) { s with toks := s.toks + 1 } → wpAny (model X.prog X.w) X.A (f (.int i t) (.int j u)) Q E s) :
    OpR X f (rI C fun i j => .int (g i j)) := by
  intro pins s σ H x y v u Q I rx ry h
  obtain ⟨i, j, rfl, rfl, hc, q⟩ := h
  obtain ⟨t, rfl⟩ := rx
  obtain ⟨t', rfl⟩ := ry
  exact rule i j t t' s _ _ hc ⟨.int (g i j), H, I.tok _, ⟨_, rfl⟩, q⟩
theorem opI0 {f : Value → Value → Sem Value} {g : Int → Int → Int}
    (rule : ∀ (i j : Int) (t u : Tok) (s : Shared) (Q : Value → Shared → Prop) (E : Value → Shared → Prop), Q (.int (g i j) s.toks) { s with toks := s.toks + 1 } → wpAny (model X.prog X.w) X.A (f (.int i t) (.int j u)) Q E s) :
    OpR X f (rI0 fun i j => .int (g i j)) := by
  intro pins s σ H x y v u Q I rx ry h
  obtain ⟨i, j, rfl, rfl, q⟩ := h
  obtain ⟨t, rfl⟩ := rx
  obtain ⟨t', rfl⟩ := ry
  exact rule i j t t' s _ _ ⟨.int (g i j), H, I.tok _, ⟨_, rfl⟩, q⟩
theorem opB0 {f : Value → Value → Sem Value} {g : Int → Int → Bool}
    (rule : ∀ (i j : Int) (t u : Tok) (s : Shared) (Q : Value → Shared → Prop) (E : Value → Shared → Prop), Q (.bool (g i j)) s → wpAny (model X.prog X.w) X.A (f (.int i t) (.int j u)) Q E s) :
    OpR X f (rI0 fun i j => .bl (g i j)) := by
  intro pins s σ H x y v u Q I rx ry h
  obtain ⟨i, j, rfl, rfl, q⟩ := h
  obtain ⟨t, rfl⟩ := rx
  obtain ⟨t', rfl⟩ := ry
  exact rule i j t t' s _ _ ⟨.bl (g i j), H, I, rfl, q⟩

def CDiv (i j : Int) : Prop := 0 < j ∧ j < 1073741824
def CDivN (i j : Int) : Prop := j ≠ 0 ∧ j.natAbs < 1073741824
def CPow (i j : Int) : Prop := 0 ≤ j ∧ j ≤ 1000000 ∧ i.natAbs < 2 ^ 64
def CMul (i j : Int) : Prop := (-(2 ^ 64) < i ∧ i < 2 ^ 64) ∨ (-(2 ^ 64) < j ∧ j < 2 ^ 64)
theorem CMul.ok {i j : Int} (h : CMul i j) : IntMulOk i j := by
  rcases h with ⟨h1, h2⟩ | ⟨h1, h2⟩
  · exact .of_left (intBits_le_64 h1 h2)
  · exact .of_right (intBits_le_64 h1 h2)
theorem two_pow_nn (k : Nat) : (0 : Int) ≤ 2 ^ k := by
  rw [two_pow_cast]
  exact Int.natCast_nonneg _

theorem op_add : OpR X (binaryOp .Add) (rI0 fun i j => .int (i + j)) := opI0 fun _ _ _ _ _ _ _ q => add_int q
theorem op_sub : OpR X (binaryOp .Sub) (rI0 fun i j => .int (i - j)) := opI0 fun _ _ _ _ _ _ _ q => sub_int q
theorem op_mul : OpR X (binaryOp .Mult) (rI CMul fun i j => .int (i * j)) := opI fun _ _ _ _ _ _ _ hc q => mul_int q hc.ok
theorem op_fdiv : OpR X (binaryOp .FloorDiv) (rI CDiv fun i j => .int (i / j)) := opI fun i j _ _ _ _ _ hc q => by
  have h1 : (0 : Int) < j := hc.1
  have h2 : j < 1073741824 := hc.2
  exact floordiv_int (by omega) (by rw [Int.fdiv_eq_ediv_of_nonneg i (by omega)]; exact q) (.inl (PyProof.noPylong_small (by omega)))
theorem op_fdivN : OpR X (binaryOp .FloorDiv) (rI CDivN fun i j => .int (i.fdiv j)) := opI fun _ _ _ _ _ _ _ hc q => floordiv_int hc.1 q (.inl (PyProof.noPylong_small hc.2))
theorem op_mod : OpR X (binaryOp .Mod) (rI (fun _ j => 0 < j) fun i j => .int (i % j)) := opI fun i j _ _ _ _ _ hc q => by
  have h1 : (0 : Int) < j := hc
  exact mod_int' (by omega) (by rw [Int.fmod_eq_emod_of_nonneg i (by omega)]; exact q)
theorem op_modN : OpR X (binaryOp .Mod) (rI (fun _ j => j ≠ 0) fun i j => .int (i.fmod j)) := opI fun _ _ _ _ _ _ _ hc q => mod_int' hc q
theorem op_pow : OpR X (binaryOp .Pow) (rI CPow fun i j => .int (i ^ j.toNat)) := opI fun _ _ _ _ _ _ _ hc q => pow_int_small hc.1 hc.2.1 hc.2.2 q
theorem op_shl : OpR X (binaryOp .LShift) (rI CPow fun i j => .int (i * 2 ^ j.toNat)) := opI fun _ _ _ _ _ _ _ hc q => lshift_int_small hc.1 hc.2.1 hc.2.2 q
theorem op_shr : OpR X (binaryOp .RShift) (rI (fun _ j => 0 ≤ j) fun i j => .int (i / 2 ^ j.toNat)) := opI fun i j _ _ _ _ _ hc q =>
  rshift_int hc (by rw [Int.fdiv_eq_ediv_of_nonneg i (two_pow_nn _)]; exact q)
theorem op_and : OpR X (binaryOp .BitAnd) (rI0 fun i j => .int (Builtin.bitAnd i j)) := opI0 fun _ _ _ _ _ _ _ q => and_int q
theorem op_or : OpR X (binaryOp .BitOr) (rI0 fun i j => .int (Builtin.bitOr i j)) := opI0 fun _ _ _ _ _ _ _ q => or_int q
theorem op_xor : OpR X (binaryOp .BitXor) (rI0 fun i j => .int (Builtin.bitXor i j)) := opI0 fun _ _ _ _ _ _ _ q => xor_int q

theorem iop_add : OpR X (inplaceOp .Add) (rI0 fun i j => .int (i + j)) := opI0 fun _ _ _ _ _ _ _ q => iadd_int q
theorem iop_sub : OpR X (inplaceOp .Sub) (rI0 fun i j => .int (i - j)) := opI0 fun _ _ _ _ _ _ _ q => isub_int q
theorem iop_mul : OpR X (inplaceOp .Mult) (rI CMul fun i j => .int (i * j)) := opI fun _ _ _ _ _ _ _ hc q => imul_int q hc.ok
theorem iop_fdiv : OpR X (inplaceOp .FloorDiv) (rI CDiv fun i j => .int (i / j)) := opI fun i j _ _ _ _ _ hc q => by
  have h1 : (0 : Int) < j := hc.1
  have h2 : j < 1073741824 := hc.2
  exact ifloordiv_int (by omega) (by rw [Int.fdiv_eq_ediv_of_nonneg i (by omega)]; exact q) (.inl (PyProof.noPylong_small (by omega)))
theorem iop_mod : OpR X (inplaceOp .Mod) (rI (fun _ j => 0 < j) fun i j => .int (i % j)) := opI fun i j _ _ _ _ _ hc q => by
  have h1 : (0 : Int) < j := hc
  exact imod_int (by omega) (by rw [Int.fmod_eq_emod_of_nonneg i (by omega)]; exact q)
theorem iop_shl : OpR X (inplaceOp .LShift) (rI CPow fun i j => .int (i * 2 ^ j.toNat)) := opI fun _ _ _ _ _ _ _ hc q => ilshift_int_small hc.1 hc.2.1 hc.2.2 q
theorem iop_shr : OpR X (inplaceOp .RShift) (rI (fun _ j => 0 ≤ j) fun i j => .int (i / 2 ^ j.toNat)) := opI fun i j _ _ _ _ _ hc q =>
  irshift_int hc (by rw [Int.fdiv_eq_ediv_of_nonneg i (two_pow_nn _)]; exact q)
theorem iop_and : OpR X (inplaceOp .BitAnd) (rI0 fun i j => .int (Builtin.bitAnd i j)) := opI0 fun _ _ _ _ _ _ _ q => iand_int q
theorem iop_or : OpR X (inplaceOp .BitOr) (rI0 fun i j => .int (Builtin.bitOr i j)) := opI0 fun _ _ _ _ _ _ _ q => ior_int q
theorem iop_xor : OpR X (inplaceOp .BitXor) (rI0 fun i j => .int (Builtin.bitXor i j)) := opI0 fun _ _ _ _ _ _ _ q => ixor_int q

theorem unI {f : Value → Sem Value} {g : Int → Int}
    (rule : ∀ (i : Int) (t : Tok) (s : Shared) (Q : Value → Shared → Prop) (E : Value → Shared → Prop), Q (.int (g i) s.toks) { s with toks := s.toks + 1 } → wpAny (model X.prog X.w) X.A (f (.int i t)) Q E s) :
    UnR X f (rU fun i => .int (g i)) := by
  intro pins s σ H x v Q I rx h
  obtain ⟨i, rfl, q⟩ := h
  obtain ⟨t, rfl⟩ := rx
  exact rule i t s _ _ ⟨.int (g i), H, I.tok _, ⟨_, rfl⟩, q⟩
theorem un_neg : UnR X (unaryOp .USub) (rU fun i => .int (-i)) := unI fun _ _ _ _ _ q => neg_int q
theorem un_inv : UnR X (unaryOp .Invert) (rU fun i => .int (Builtin.bitNot i)) := unI fun _ _ _ _ _ q => invert_int q

theorem op_add_ib : OpR X (binaryOp .Add) (fun x y H Q => ∃ i k, x = .int i ∧ y = .bl k ∧ Q (.int (i + b2i k)) H) := by
  intro pins s σ H x y v u Q I rx ry h
  obtain ⟨i, k, rfl, rfl, q⟩ := h
  obtain ⟨t, rfl⟩ := rx
  cases ry
  exact add_int_bool ⟨.int (i + b2i k), H, I.tok _, ⟨_, rfl⟩, q⟩
end

def scal : V → V → Bool
  | .non, .non => true | .non, .int _ => true | .int _, .non => true | .non, .bl _ => true | .bl _, .non => true | .non, .str _ => true | .str _, .non => true
  | .int _, .int _ => true | .bl _, .bl _ => true | .str _, .str _ => true | .byt _, .byt _ => true
  | .int _, .str _ => true | .str _, .int _ => true | .bl _, .str _ => true | .str _, .bl _ => true
  | _, _ => false
def rEq : R2 := fun x y H Q => scal x y = true ∧ Q (.bl (decide (x = y))) H
def rNe : R2 := fun x y H Q => scal x y = true ∧ Q (.bl (!decide (x = y))) H

theorem dec_int {i j : Int} : decide (V.int i = V.int j) = (i == j) := by
  rw [Bool.eq_iff_iff]
  simp
theorem dec_bl {i j : Bool} : decide (V.bl i = V.bl j) = (i == j) := by
  rw [Bool.eq_iff_iff]
  simp
theorem dec_str {i j : Str} : decide (V.str i = V.str j) = (i == j) := by
  rw [Bool.eq_iff_iff]
  simp
theorem dec_byt {i j : Array UInt8} : decide (V.byt i = V.byt j) = (i.toList == j.toList) := by
  rw [Bool.eq_iff_iff]
  cases i
  cases j
  simp

section
variable {X : Cx} {a b c : Expr} {ta tb tc : TE} {pos : Pos}
theorem fin_bl {pins : List (Addr × Obj)} {σ : St} {H : Hp} {s : Shared} {Q : VK} {k k' : Bool} (I : Inv X pins σ H s) (q : Q (.bl k) H) (e : k = k') : EP X pins σ Q (.bool k') s := by
  subst e
  exact ⟨.bl k, H, I, rfl, q⟩
theorem op_eq : OpR X (compareOp .Eq) rEq := by
  intro pins s σ H x y v u Q I rx ry h
  obtain ⟨hs, q⟩ := h
  cases x with
  | non =>
    cases rx
    cases y with
    | non => cases ry; exact PySem.EqNone.eq_none_none (fin_bl I q (by simp))
    | bl j => cases ry; exact PySem.EqNone.eq_none_bool (fin_bl I q (by simp))
    | int j => obtain ⟨t', rfl⟩ := ry; exact PySem.EqNone.eq_none_int (fin_bl I q (by simp))
    | str j => obtain ⟨t', rfl⟩ := ry; exact PySem.EqNone.eq_none_str (fin_bl I q (by simp))
    | _ => exact absurd (show false = true from hs) Bool.false_ne_true
  | bl i =>
    cases rx
    cases y with
    | non => cases ry; exact PySem.EqNone.eq_bool_none (fin_bl I q (by simp))
    | bl j => cases ry; exact eq_bool (fin_bl I q dec_bl)
    | str j => obtain ⟨t', rfl⟩ := ry; exact PySem.EqMixed.eq_bool_str (fin_bl I q (by simp))
    | _ => exact absurd (show false = true from hs) Bool.false_ne_true
  | int i =>
    obtain ⟨t, rfl⟩ := rx
    cases y with
    | non => cases ry; exact PySem.EqNone.eq_int_none (fin_bl I q (by simp))
    | int j => obtain ⟨t', rfl⟩ := ry; exact eq_int (fin_bl I q dec_int)
    | str j => obtain ⟨t', rfl⟩ := ry; exact PySem.EqMixed.eq_int_str (fin_bl I q (by simp))
    | _ => exact absurd (show false = true from hs) Bool.false_ne_true
  | str i =>
    obtain ⟨t, rfl⟩ := rx
    cases y with
    | non => cases ry; exact PySem.EqNone.eq_str_none (fin_bl I q (by simp))
    | bl j => cases ry; exact PySem.EqMixed.eq_str_bool (fin_bl I q (by simp))
    | int j => obtain ⟨t', rfl⟩ := ry; exact PySem.EqMixed.eq_str_int (fin_bl I q (by simp))
    | str j => obtain ⟨t', rfl⟩ := ry; exact eq_str (fin_bl I q dec_str)
    | _ => exact absurd (show false = true from hs) Bool.false_ne_true
  | byt i =>
    obtain ⟨t, rfl⟩ := rx
    cases y with
    | byt j => obtain ⟨t', rfl⟩ := ry; exact PySem.W.eq_bytes (fin_bl I q dec_byt)
    | _ => exact absurd (show false = true from hs) Bool.false_ne_true
  | _ => cases y <;> exact absurd (show false = true from hs) Bool.false_ne_true
theorem op_ne : OpR X (compareOp .NotEq) rNe := by
  intro pins s σ H x y v u Q I rx ry h
  obtain ⟨hs, q⟩ := h
  cases x with
  | non =>
    cases rx
    cases y with
    | non => cases ry; exact PySem.EqNone.ne_none_none (fin_bl I q (by simp))
    | bl j => cases ry; exact PySem.EqNone.ne_none_bool (fin_bl I q (by simp))
    | int j => obtain ⟨t', rfl⟩ := ry; exact PySem.EqNone.ne_none_int (fin_bl I q (by simp))
    | str j => obtain ⟨t', rfl⟩ := ry; exact PySem.EqNone.ne_none_str (fin_bl I q (by simp))
    | _ => exact absurd (show false = true from hs) Bool.false_ne_true
  | bl i =>
    cases rx
    cases y with
    | non => cases ry; exact PySem.EqNone.ne_bool_none (fin_bl I q (by simp))
    | bl j => cases ry; exact ne_bool (fin_bl I q (congrArg not dec_bl))
    | str j => obtain ⟨t', rfl⟩ := ry; exact PySem.EqMixed.ne_bool_str (fin_bl I q (by simp))
    | _ => exact absurd (show false = true from hs) Bool.false_ne_true
  | int i =>
    obtain ⟨t, rfl⟩ := rx
    cases y with
    | non => cases ry; exact PySem.EqNone.ne_int_none (fin_bl I q (by simp))
    | int j => obtain ⟨t', rfl⟩ := ry; exact ne_int (fin_bl I q (congrArg not dec_int))
    | str j => obtain ⟨t', rfl⟩ := ry; exact PySem.EqMixed.ne_int_str (fin_bl I q (by simp))
    | _ => exact absurd (show false = true from hs) Bool.false_ne_true
  | str i =>
    obtain ⟨t, rfl⟩ := rx
    cases y with
    | non => cases ry; exact PySem.EqNone.ne_str_none (fin_bl I q (by simp))
    | bl j => cases ry; exact PySem.EqMixed.ne_str_bool (fin_bl I q (by simp))
    | int j => obtain ⟨t', rfl⟩ := ry; exact PySem.EqMixed.ne_str_int (fin_bl I q (by simp))
    | str j => obtain ⟨t', rfl⟩ := ry; exact ne_str (fin_bl I q (congrArg not dec_str))
    | _ => exact absurd (show false = true from hs) Bool.false_ne_true
  | byt i =>
    obtain ⟨t, rfl⟩ := rx
    cases y with
    | byt j => obtain ⟨t', rfl⟩ := ry; exact PySem.W.ne_bytes (fin_bl I q (congrArg not dec_byt))
    | _ => exact absurd (show false = true from hs) Bool.false_ne_true
  | _ => cases y <;> exact absurd (show false = true from hs) Bool.false_ne_true

theorem op_lt : OpR X (compareOp .Lt) (rI0 fun i j => .bl (decide (i < j))) := opB0 fun _ _ _ _ _ _ _ q => lt_int q
theorem op_le : OpR X (compareOp .LtE) (rI0 fun i j => .bl (decide (i ≤ j))) := opB0 fun _ _ _ _ _ _ _ q => le_int q
theorem op_gt : OpR X (compareOp .Gt) (rI0 fun i j => .bl (decide (j < i))) := opB0 fun _ _ _ _ _ _ _ q => gt_int q
theorem op_ge : OpR X (compareOp .GtE) (rI0 fun i j => .bl (decide (j ≤ i))) := opB0 fun _ _ _ _ _ _ _ q => ge_int q
theorem op_lt_str : OpR X (compareOp .Lt) (fun x y H Q => ∃ i j, x = .str i ∧ y = .str j ∧ Q (.bl (decide (i.cps.toList < j.cps.toList))) H) := by
  intro pins s σ H x y v u Q I rx ry h
  obtain ⟨i, j, rfl, rfl, q⟩ := h
  obtain ⟨t, rfl⟩ := rx
  obtain ⟨t', rfl⟩ := ry
  exact lt_str (fin_bl I q rfl)
theorem op_in_str : OpR X (compareOp .In) (fun x y H Q => ∃ i j, x = .str i ∧ y = .str j ∧ Q (.bl (!(Builtin.Str.occurrences j i 0 j.length 1).isEmpty)) H) := by
  intro pins s σ H x y v u Q I rx ry h
  obtain ⟨i, j, rfl, rfl, q⟩ := h
  obtain ⟨t, rfl⟩ := rx
  obtain ⟨t', rfl⟩ := ry
  exact in_str (fin_bl I q rfl)

theorem op_isN : OpR X (compareOp .Is) (fun x y H Q => y = .non ∧ Q (.bl (decide (x = .non))) H) := by
  intro pins s σ H x y v u Q I rx ry h
  obtain ⟨rfl, q⟩ := h
  cases ry
  refine is_none_gen (fin_bl I q ?_)
  cases x <;> first
    | (cases rx; rfl)
    | (obtain ⟨t, rfl⟩ := rx; rfl)
theorem op_notN : OpR X (compareOp .IsNot) (fun x y H Q => y = .non ∧ Q (.bl (!decide (x = .non))) H) := by
  intro pins s σ H x y v u Q I rx ry h
  obtain ⟨rfl, q⟩ := h
  cases ry
  refine isnot_none_gen (fin_bl I q ?_)
  cases x <;> first
    | (cases rx; rfl)
    | (obtain ⟨t, rfl⟩ := rx; rfl)

theorem op_notin_str : OpR X (compareOp .NotIn) (fun x y H Q => ∃ i j, x = .str i ∧ y = .str j ∧ Q (.bl (!(!(Builtin.Str.occurrences j i 0 j.length 1).isEmpty))) H) := by
  intro pins s σ H x y v u Q I rx ry h
  obtain ⟨i, j, rfl, rfl, q⟩ := h
  obtain ⟨t, rfl⟩ := rx
  obtain ⟨t', rfl⟩ := ry
  exact notIn_str (fin_bl I q rfl)
def isObj : HO → Bool
  | .lst _ => true
  | .ins _ _ _ => true
  | _ => false
theorem obj_there {pins : List (Addr × Obj)} {s : Shared} {σ : St} {H : Hp} {a : Addr} {o : HO} (I : Inv X pins σ H s) (h : H a = some o) (p : isObj o = true) : ∃ ob, s.heap.get? a = some ob ∧ ob.cls ≠ .type "tuple" := by
  cases o with
  | lst xs =>
    obtain ⟨_, its, n, _, e⟩ : xs.length ≤ sizeLine ∧ ∃ (its : List Value) (n : Nat), Vals xs its ∧ s.heap.get? a = some { cls := .type "list", data := .seq its.toArray n } := I.hok a _ h
    exact ⟨_, e, (by show Value.type "list" ≠ .type "tuple"; decide +kernel)⟩
  | ins C dx fs =>
    have x := I.hok a _ h
    obtain ⟨_, _, _, e, _⟩ := x
    exact ⟨_, e, (by show Value.ref C ≠ .type "tuple"; exact fun z => by cases z)⟩
  | _ => exact absurd (show false = true from p) Bool.false_ne_true
theorem op_is_ref : OpR X (compareOp .Is) (fun x y H Q => ∃ a b oa ob, x = .ref a ∧ y = .ref b ∧ H a = some oa ∧ isObj oa = true ∧ H b = some ob ∧ isObj ob = true ∧ Q (.bl (decide (a = b))) H) := by
  intro pins s σ H x y v u Q I rx ry h
  obtain ⟨a, b, oa, ob, rfl, rfl, ha, pa, hb, pb, q⟩ := h
  cases rx
  cases ry
  obtain ⟨o1, e1, n1⟩ := obj_there I ha pa
  obtain ⟨o2, e2, _⟩ := obj_there I hb pb
  by_cases z : a = b
  · subst z
    exact wpAny_is_ref_self (fin_bl I q (by simp))
  · exact wpAny_is_ref_other z e1 e2 n1 (fin_bl I q (by simp [z]))
theorem op_isnot_ref : OpR X (compareOp .IsNot) (fun x y H Q => ∃ a b oa ob, x = .ref a ∧ y = .ref b ∧ H a = some oa ∧ isObj oa = true ∧ H b = some ob ∧ isObj ob = true ∧ Q (.bl (!decide (a = b))) H) := by
  intro pins s σ H x y v u Q I rx ry h
  obtain ⟨a, b, oa, ob, rfl, rfl, ha, pa, hb, pb, q⟩ := h
  cases rx
  cases ry
  obtain ⟨o1, e1, n1⟩ := obj_there I ha pa
  obtain ⟨o2, e2, _⟩ := obj_there I hb pb
  by_cases z : a = b
  · subst z
    exact wpAny_isNot_ref_self (fin_bl I q (by simp))
  · exact wpAny_isNot_ref_other z e1 e2 n1 (fin_bl I q (by simp [z]))

theorem OpR.or {f : Value → Value → Sem Value} {r r' : R2} (h : OpR X f r) (h' : OpR X f r') : OpR X f (fun x y H Q => r x y H Q ∨ r' x y H Q) := by
  intro pins s σ H x y v u Q I rx ry q
  rcases q with q | q
  · exact h pins s σ H x y v u Q I rx ry q
  · exact h' pins s σ H x y v u Q I rx ry q

theorem nomark (b : Expr) {op : CmpOp} (h : op ≠ .In := by decide) (h2 : op ≠ .NotIn := by decide) : behindInMarks op b = false := by
  have e1 : (op == CmpOp.In) = false := by cases op <;> first | rfl | exact absurd rfl h
  have e2 : (op == CmpOp.NotIn) = false := by cases op <;> first | rfl | exact absurd rfl h2
  cases b <;> simp [behindInMarks, e1, e2]
theorem pe_cmpR {op : CmpOp} {r : R2} (ho : OpR X (compareOp op) r) (ha : PE X a ta) (hb : PE X b tb) (hm : behindInMarks op b = false) : PE X (.Compare a [op] [b] pos) (tOp r ta tb) := by
  intro pins s σ H Q I h
  exact wpAny_Compare1 (binT ha hb I h fun v u s2 x y H2 I2 rx ry q => ho pins s2 σ H2 x y v u Q I2 rx ry q) hm
def tTest (t : TE) : TT := fun σ H Q => t σ H fun x H' => ∃ k, x = .bl k ∧ Q k H'
theorem pt_cmpR {op : CmpOp} {r : R2} (ho : OpR X (compareOp op) r) (ha : PE X a ta) (hb : PE X b tb) (hm : behindInMarks op b = false) : PT X (.Compare a [op] [b] pos) (tTest (tOp r ta tb)) := by
  intro pins s σ H Q I h
  refine wpAny_isTrue_Compare1 (thn (ha pins s σ H _ I h) fun v s1 ⟨x, H1, I1, r1, q1⟩ => thn (hb pins s1 σ H1 _ I1 q1) fun u s2 ⟨y, H2, I2, r2, q2⟩ =>
    thn (ho pins s2 σ H2 x y v u _ I2 r1 r2 q2) fun c s3 ⟨z, H3, I3, r3, k, e, q3⟩ => ?_) hm
  subst e
  cases r3
  exact wpAny_truthy_bool ⟨H3, I3, q3⟩
def tChain (r r' : R2) (ta tb tc : TE) : TE := fun σ H Q => ta σ H fun x H1 => tb σ H1 fun y H2 => r x y H2 fun z H3 => ∃ k, z = .bl k ∧
  (if k = true then tc σ H3 fun w' H4 => r' y w' H4 Q else Q (.bl false) H3)
theorem pe_chain {op op' : CmpOp} {r r' : R2} (ho : OpR X (compareOp op) r) (ho' : OpR X (compareOp op') r') (ha : PE X a ta) (hb : PE X b tb) (hc : PE X c tc)
    (hm : lastMarks [op, op'] [b, c] = false := by with_unfolding_all rfl) : PE X (.Compare a [op, op'] [b, c] pos) (tChain r r' ta tb tc) := by
  intro pins s σ H Q I h
  refine Compare_chain (thn (ha pins s σ H _ I h) fun v s1 ⟨x, H1, I1, r1, q1⟩ => chain_link (thn (hb pins s1 σ H1 _ I1 q1) fun u s2 ⟨y, H2, I2, r2, q2⟩ =>
    thn (ho pins s2 σ H2 x y v u _ I2 r1 r2 q2) fun d s3 ⟨z, H3, I3, r3, k, e, q3⟩ => ?_)) hm
  subst e
  cases r3
  refine wpAny_truthy_bool ?_
  cases k with
  | false => exact ite_ff ⟨.bl false, H3, I3, rfl, q3⟩
  | true => exact ite_tt (chain_last (thn (hc pins s3 σ H3 _ I3 q3) fun w' s4 ⟨z', H4, I4, r4, q4⟩ => ho' pins s4 σ H4 y z' u w' Q I4 r2 r4 q4))
theorem pt_chain {op op' : CmpOp} {r r' : R2} (ho : OpR X (compareOp op) r) (ho' : OpR X (compareOp op') r') (ha : PE X a ta) (hb : PE X b tb) (hc : PE X c tc)
    (hm : lastMarks [op, op'] [b, c] = false := by with_unfolding_all rfl) : PT X (.Compare a [op, op'] [b, c] pos) (tTest (tChain r r' ta tb tc)) := by
  intro pins s σ H Q I h
  refine isTrue_chain (thn (ha pins s σ H _ I h) fun v s1 ⟨x, H1, I1, r1, q1⟩ => test_link (thn (hb pins s1 σ H1 _ I1 q1) fun u s2 ⟨y, H2, I2, r2, q2⟩ =>
    thn (ho pins s2 σ H2 x y v u _ I2 r1 r2 q2) fun d s3 ⟨z, H3, I3, r3, k, e, q3⟩ => ?_)) hm
  subst e
  cases r3
  refine wpAny_truthy_bool ?_
  cases k with
  | false =>
    obtain ⟨k', e', q'⟩ := q3
    cases e'
    exact ite_ff ⟨H3, I3, q'⟩
  | true =>
    refine ite_tt (test_last (thn (hc pins s3 σ H3 _ I3 q3) fun w' s4 ⟨z', H4, I4, r4, q4⟩ => thn (ho' pins s4 σ H4 y z' u w' _ I4 r2 r4 q4) fun d' s5 ⟨z2, H5, I5, r5, k2, e2, q5⟩ => ?_))
    subst e2
    cases r5
    exact wpAny_truthy_bool ⟨H5, I5, q5⟩

def TruV (K : PySem.W.Frag) (x : V) (H : Hp) (k : Bool) : Prop :=
  match x with
  | .non => k = false
  | .bl b => k = b
  | .int i => k = (i != 0)
  | .str y => y.length ≤ sizeLine ∧ k = ((y.length : Int) != 0)
  | .byt y => y.size ≤ sizeLine ∧ k = ((y.size : Int) != 0)
  | .ref p => (∃ xs, SqL K H p xs ∧ k = !xs.isEmpty) ∨ (∃ xs, SqT K H p xs ∧ k = !xs.isEmpty) ∨ ∃ kvs, H p = some (.dK kvs) ∧ k = !kvs.isEmpty
  | _ => False
theorem isEmpty_kv {κ : Type} {kvs : List (κ × V)} {vs : List (κ × Value)} (r : KV kvs vs) : (!vs.isEmpty) = !kvs.isEmpty := by
  cases r <;> rfl
theorem isEmpty_of {xs : List V} {its : List Value} (r : Vals xs its) : (!its.toArray.isEmpty) = !xs.isEmpty := by
  cases r <;> simp
theorem line63 : (sizeLine : Nat) < 2 ^ 63 := by rw [sizeLine_eq]; decide
theorem tru_ok : TruR X (fun x H Q => ∃ k, TruV X.K x H k ∧ Q k H) := by
  intro pins s σ H x v Q I rx h
  obtain ⟨k, e, q⟩ := h
  have hl := line63
  have hs : sizeLine = 16777216 := sizeLine_eq
  cases x with
  | non =>
    cases rx
    have e' : k = false := e
    subst e'
    exact truthy_none ⟨H, I, q⟩
  | bl b =>
    cases rx
    have e' : k = b := e
    subst e'
    exact wpAny_truthy_bool ⟨H, I, q⟩
  | int i =>
    obtain ⟨t, rfl⟩ := rx
    have e' : k = (i != 0) := e
    subst e'
    exact PySem.P.truthy_int ⟨H, I, q⟩
  | str y =>
    obtain ⟨t, rfl⟩ := rx
    obtain ⟨hy, e'⟩ : y.length ≤ sizeLine ∧ k = ((y.length : Int) != 0) := e
    subst e'
    exact PySem.P.truthy_str (by omega) ⟨H, I.tok _, q⟩
  | byt y =>
    obtain ⟨t, rfl⟩ := rx
    obtain ⟨hy, e'⟩ : y.size ≤ sizeLine ∧ k = ((y.size : Int) != 0) := e
    subst e'
    exact PySem.W.truthy_bytes (by omega) ⟨H, I.tok _, q⟩
  | ref p =>
    cases rx
    have e' : (∃ xs, SqL X.K H p xs ∧ k = !xs.isEmpty) ∨ (∃ xs, SqT X.K H p xs ∧ k = !xs.isEmpty) ∨ ∃ kvs, H p = some (.dK kvs) ∧ k = !kvs.isEmpty := e
    rcases e' with ⟨xs, hx, e'⟩ | ⟨xs, hx, e'⟩ | ⟨kvs, hx, e'⟩
    · subst e'
      obtain ⟨its, r, pl, hz⟩ := I.list hx
      have hlen := r.length
      exact wpAny_truthy_list pl.isList (by simp only [List.size_toArray]; omega) ⟨H, I.tok _, by rw [isEmpty_of r]; exact q⟩
    · subst e'
      obtain ⟨its, r, pl, hz⟩ := I.tuple hx
      have hlen := r.length
      exact truthy_tuple pl (by simp only [List.size_toArray]; omega) ⟨H, I.tok _, by rw [isEmpty_of r]; exact q⟩
    · subst e'
      obtain ⟨hz, hS, vs, r, m⟩ : kvs.length ≤ sizeLine ∧ (p == sysModules) = false ∧ ∃ vs, KV kvs vs ∧ s.heap.DictOf (mixKind X.prog X.w) p vs := I.hok p _ hx
      have hlen : kvs.length = vs.length := Paired.length r
      exact wpAny_truthy_dict hS m (by omega) ⟨H, I.tok _, by rw [isEmpty_kv r]; exact q⟩
  | _ => exact (show False from e).elim
theorem pt_truth (ha : PE X a ta) (he : ∀ whole, isTrue a X.env whole = (do let v ← whole; standAt a.pos; holding [v] (truthy v))) :
    PT X a (fun σ H Q => ta σ H fun x H' => ∃ k, TruV X.K x H' k ∧ Q k H') := by
  intro pins s σ H Q I h
  exact isTrue_plain (thn (ha pins s σ H _ I h) fun v s1 ⟨x, H1, I1, r1, q1⟩ => tru_ok pins s1 σ H1 x v Q I1 r1 q1) (he _)

theorem pe_byt {x : List UInt8} {k : Nat} : PE X (.Constant (.bytes x) k pos) (fun _ H Q => Q (.byt x.toArray) H) := fun _ _ _ H _ I h => PySem.W.Constant_bytes ⟨.byt x.toArray, H, I.tok _, ⟨_, rfl⟩, h⟩
theorem op_add_str : OpR X (binaryOp .Add) (fun x y H Q => ∃ i j, x = .str i ∧ y = .str j ∧ i.length + j.length ≤ sizeLine ∧ Q (.str (i ++ j)) H) := by
  intro pins s σ H x y v u Q I rx ry h
  obtain ⟨i, j, rfl, rfl, hz, q⟩ := h
  obtain ⟨t, rfl⟩ := rx
  obtain ⟨t', rfl⟩ := ry
  exact add_str (fun t' tk => ⟨.str (i ++ j), H, I.tok _, ⟨_, rfl⟩, q⟩) hz
theorem iop_add_str : OpR X (inplaceOp .Add) (fun x y H Q => ∃ i j, x = .str i ∧ y = .str j ∧ i.length + j.length ≤ sizeLine ∧ Q (.str (i ++ j)) H) := by
  intro pins s σ H x y v u Q I rx ry h
  obtain ⟨i, j, rfl, rfl, hz, q⟩ := h
  obtain ⟨t, rfl⟩ := rx
  obtain ⟨t', rfl⟩ := ry
  exact iadd_str (fun t' tk => ⟨.str (i ++ j), H, I.tok _, ⟨_, rfl⟩, q⟩) hz
theorem op_add_byt : OpR X (binaryOp .Add) (fun x y H Q => ∃ i j, x = .byt i ∧ y = .byt j ∧ i.size + j.size ≤ 16777216 ∧ Q (.byt (i ++ j)) H) := by
  intro pins s σ H x y v u Q I rx ry h
  obtain ⟨i, j, rfl, rfl, hz, q⟩ := h
  obtain ⟨t, rfl⟩ := rx
  obtain ⟨t', rfl⟩ := ry
  exact PySem.W.KBy.add_bytes hz (fun t' tk => ⟨.byt (i ++ j), H, I.tok _, ⟨_, rfl⟩, q⟩)

def PlainIxT (b : Expr) : Prop := ∀ o i, subscripted b false o i = operate [o, i] (getItem o i)
theorem pe_item_str (ha : PE X a ta) (hb : PE X b tb) (hs : PlainIxT b) :
    PE X (.Subscript a b pos) (tOp (fun x y H Q => ∃ z i c, x = .str z ∧ y = .int i ∧ 0 ≤ i ∧ i < 2 ^ 63 ∧ i < z.length ∧ z.cps[i.toNat]? = some c ∧ Q (.str ⟨#[c]⟩) H) ta tb) := by
  intro pins s σ H Q I h
  refine Subscript_ (binT ha hb I h fun v u s2 x y H2 I2 rx ry q => ?_)
  obtain ⟨z, i, c, rfl, rfl, h0, h63, h1, hc, q⟩ := q
  obtain ⟨t, rfl⟩ := rx
  obtain ⟨t', rfl⟩ := ry
  have e : seqIndex? i z.length = some i.toNat := PySem.StrLaws.seqIndex_nonneg h0 h1
  exact tail_any (typeIs_str s2 z t) slot_str_getitem.lookup (getItem_str (c := c) (by
    have e1 : decide (i < -(2 ^ 63 : Int)) = false := decide_eq_false (by omega)
    have e2 : decide (i ≥ 2 ^ 63) = false := decide_eq_false (by omega)
    rw [e1, e2] <;> rfl) (by rw [e]; exact hc) ⟨.str ⟨#[c]⟩, H2, I2.tok _, ⟨_, rfl⟩, q⟩) (hs _ _)
theorem pe_item_byt (ha : PE X a ta) (hb : PE X b tb) (hs : PlainIxT b) :
    PE X (.Subscript a b pos) (tOp (fun x y H Q => ∃ (z : List UInt8) (i : Int), x = .byt z.toArray ∧ y = .int i ∧ z.length ≤ sizeLine ∧ 0 ≤ i ∧ i < z.length ∧ Q (.int ((z.getD i.toNat 0).toNat : Nat)) H) ta tb) := by
  intro pins s σ H Q I h
  refine Subscript_ (binT ha hb I h fun v u s2 x y H2 I2 rx ry q => ?_)
  obtain ⟨z, i, rfl, rfl, hz, h0, h1, q⟩ := q
  obtain ⟨t, rfl⟩ := rx
  obtain ⟨t', rfl⟩ := ry
  have hl : sizeLine = 16777216 := sizeLine_eq
  exact tail_any (PySem.W.typeIs_bytes s2 z.toArray t) PySem.W.FB.slot_bytes_getitem.lookup (PySem.W.getItem_bytes (by omega) h0 h1 ⟨.int ((z.getD i.toNat 0).toNat : Nat), H2, I2.tok _, ⟨_, rfl⟩, q⟩) (hs _ _)

theorem vals1 {x : V} {us : List Value} (r : Vals [x] us) : ∃ u, us = [u] ∧ RelV x u := by
  cases r with
  | cons r1 r2 => cases r2; exact ⟨_, rfl, r1⟩
theorem vals2 {x y : V} {us : List Value} (r : Vals [x, y] us) : ∃ u w', us = [u, w'] ∧ RelV x u ∧ RelV y w' := by
  cases r with
  | cons r1 r2 =>
    cases r2 with
    | cons r3 r4 => cases r4; exact ⟨_, _, rfl, r1, r3⟩
theorem call_abs : CallR X (.builtin "abs") (fun xs H Q => ∃ i, xs = [.int i] ∧ Q (.int (if i < 0 then -i else i)) H) := by
  intro pins s σ H xs us Q I r h
  obtain ⟨i, rfl, q⟩ := h
  obtain ⟨u, rfl, t, rfl⟩ := vals1 r
  exact call_abs_int fun u tk => ⟨.int (if i < 0 then -i else i), H, I.tok _, ⟨_, rfl⟩, q⟩
theorem call_max2 (hc : X.calm = true) : CallR X (.builtin "max") (fun xs H Q => ∃ i j, xs = [.int i, .int j] ∧ Q (.int (if j > i then j else i)) H) := by
  intro pins s σ H xs us Q I r h
  obtain ⟨i, j, rfl, q⟩ := h
  obtain ⟨u, w', rfl, ⟨t, rfl⟩, ⟨t', rfl⟩⟩ := vals2 r
  refine max_two_ints (I.ok.hd hc) fun h' tk k => ⟨_, H, I.kept k, ?_, q⟩
  by_cases hj : j > i
  · rw [if_pos hj, if_pos hj]; exact ⟨_, rfl⟩
  · rw [if_neg hj, if_neg hj]; exact ⟨_, rfl⟩
theorem call_min2 (hc : X.calm = true) : CallR X (.builtin "min") (fun xs H Q => ∃ i j, xs = [.int i, .int j] ∧ Q (.int (if j < i then j else i)) H) := by
  intro pins s σ H xs us Q I r h
  obtain ⟨i, j, rfl, q⟩ := h
  obtain ⟨u, w', rfl, ⟨t, rfl⟩, ⟨t', rfl⟩⟩ := vals2 r
  refine min_two_ints (I.ok.hd hc) fun h' tk k => ⟨_, H, I.kept k, ?_, q⟩
  by_cases hj : j < i
  · rw [if_pos hj, if_pos hj]; exact ⟨_, rfl⟩
  · rw [if_neg hj, if_neg hj]; exact ⟨_, rfl⟩
theorem call_int1 : CallR X (.type "int") (fun xs H Q => (∃ i, xs = [.int i] ∧ Q (.int i) H) ∨ ∃ k, xs = [.bl k] ∧ Q (.int (if k then 1 else 0)) H) := by
  intro pins s σ H xs us Q I r h
  rcases h with ⟨i, rfl, q⟩ | ⟨k, rfl, q⟩
  · obtain ⟨u, rfl, t, rfl⟩ := vals1 r
    exact call_int_int ⟨.int i, H, I, ⟨_, rfl⟩, q⟩
  · obtain ⟨u, rfl, r1⟩ := vals1 r
    cases r1
    exact call_int_bool ⟨.int (if k then 1 else 0), H, I.tok _, ⟨_, rfl⟩, q⟩
theorem call_bool1 : CallR X (.type "bool") (fun xs H Q => (∃ i, xs = [.int i] ∧ Q (.bl (i != 0)) H) ∨ ∃ k, xs = [.bl k] ∧ Q (.bl k) H) := by
  intro pins s σ H xs us Q I r h
  rcases h with ⟨i, rfl, q⟩ | ⟨k, rfl, q⟩
  · obtain ⟨u, rfl, t, rfl⟩ := vals1 r
    exact call_bool_int ⟨.bl (i != 0), H, I, rfl, q⟩
  · obtain ⟨u, rfl, r1⟩ := vals1 r
    cases r1
    exact call_bool_bool ⟨.bl k, H, I, rfl, q⟩
theorem call_str_int : CallR X (.type "str") (fun xs H Q => ∃ i, xs = [.int i] ∧ i.natAbs.log2 < 1920 ∧ Q (.str (toString i)) H) := by
  intro pins s σ H xs us Q I r h
  obtain ⟨i, rfl, hz, q⟩ := h
  obtain ⟨u, rfl, t, rfl⟩ := vals1 r
  exact PySem.P.str_of_int hz ⟨.str _, H, I.tok _, ⟨_, rfl⟩, q⟩
theorem call_ord : CallR X (.builtin "ord") (fun xs H Q => ∃ x, xs = [.str x] ∧ x.length = 1 ∧ Q (.int (x.cps.getD 0 0 : Nat)) H) := by
  intro pins s σ H xs us Q I r h
  obtain ⟨x, rfl, hz, q⟩ := h
  obtain ⟨u, rfl, t, rfl⟩ := vals1 r
  exact ord_of_one hz ⟨.int _, H, I.tok _, ⟨_, rfl⟩, q⟩
theorem call_chr : CallR X (.builtin "chr") (fun xs H Q => ∃ i, xs = [.int i] ∧ 0 ≤ i ∧ i ≤ 1114111 ∧ Q (.str ⟨#[i.toNat]⟩) H) := by
  intro pins s σ H xs us Q I r h
  obtain ⟨i, rfl, h0, h1, q⟩ := h
  obtain ⟨u, rfl, t, rfl⟩ := vals1 r
  exact chr_of_range h0 h1 ⟨.str _, H, I.tok _, ⟨_, rfl⟩, q⟩
def LenV (K : PySem.W.Frag) (x : V) (H : Hp) (n : Nat) : Prop :=
  match x with
  | .str y => y.length ≤ sizeLine ∧ n = y.length
  | .byt y => y.size ≤ sizeLine ∧ n = y.size
  | .ref p => (∃ xs, SqL K H p xs ∧ n = xs.length) ∨ ∃ xs, SqT K H p xs ∧ n = xs.length
  | _ => False
theorem call_len : CallR X (.builtin "len") (fun xs H Q => ∃ x n, xs = [x] ∧ LenV X.K x H n ∧ Q (.int n) H) := by
  intro pins s σ H xs us Q I r h
  obtain ⟨x, n, rfl, e, q⟩ := h
  obtain ⟨u, rfl, rx⟩ := vals1 r
  have hl := line63
  have hs : sizeLine = 16777216 := sizeLine_eq
  cases x with
  | str y =>
    obtain ⟨t, rfl⟩ := rx
    obtain ⟨hy, e'⟩ : y.length ≤ sizeLine ∧ n = y.length := e
    subst e'
    exact len_str (by omega) ⟨.int _, H, I.tok _, ⟨_, rfl⟩, q⟩
  | byt y =>
    obtain ⟨t, rfl⟩ := rx
    obtain ⟨hy, e'⟩ : y.size ≤ sizeLine ∧ n = y.size := e
    subst e'
    exact PySem.W.len_bytes (by omega) ⟨.int _, H, I.tok _, ⟨_, rfl⟩, q⟩
  | ref p =>
    cases rx
    have e' : (∃ xs, SqL X.K H p xs ∧ n = xs.length) ∨ ∃ xs, SqT X.K H p xs ∧ n = xs.length := e
    rcases e' with ⟨xs, hx, e'⟩ | ⟨xs, hx, e'⟩
    · subst e'
      obtain ⟨its, r', pl, hz⟩ := I.list hx
      have hlen := r'.length
      exact Calls.call_len_list pl.isList (by simp only [List.size_toArray]; omega) ⟨.int xs.length, H, I.tok _, ⟨_, by simp only [List.size_toArray]; rw [hlen]⟩, q⟩
    · subst e'
      obtain ⟨its, r', pl, hz⟩ := I.tuple hx
      have hlen := r'.length
      exact len_tuple pl (by simp only [List.size_toArray]; omega) ⟨.int xs.length, H, I.tok _, ⟨_, by simp only [List.size_toArray]; rw [hlen]⟩, q⟩
  | _ => exact (show False from e).elim
theorem call_divmod : CallR X (.builtin "divmod") (fun xs H Q => ∃ i j, xs = [.int i, .int j] ∧ CDiv i j ∧ ∀ p, H p = none → Q (.ref p) (upd H p (.tup [.int (i / j), .int (i % j)]))) := by
  intro pins s σ H xs us Q I r h
  obtain ⟨i, j, rfl, ⟨h1, h2⟩, q⟩ := h
  obtain ⟨u, w', rfl, ⟨t, rfl⟩, ⟨t', rfl⟩⟩ := vals2 r
  refine divmod_int (by omega) ?_ (.inl (PyProof.noPylong_small (by omega)))
  rw [Int.fdiv_eq_ediv_of_nonneg i (by omega), Int.fmod_eq_emod_of_nonneg i (by omega)]
  have hn : H s.heap.objs.size = none := I.hok.fresh (Nat.le_refl _)
  refine ⟨.ref s.heap.objs.size, _, ?_, rfl, q _ hn⟩
  refine I.laid (fun b o e => Heap.get?_push_of_some _ e) (Nat.le_refl _) ⟨by simp only [List.length_cons, List.length_nil]; rw [sizeLine_eq]; decide, [.int (i / j) s.toks, .int (i % j) (s.toks + 1)], .cons ⟨_, rfl⟩ (.cons ⟨_, rfl⟩ .nil), ?_⟩
  exact ⟨_, Heap.get?_push_size s.heap rfl, rfl, 0, rfl⟩
end
end L2

namespace L2
open PySem PySem.Spec PyProof.Rows

structure ObjM (h : Heap) (x dx C : Addr) (mA : Str → Option Value) : Prop where
  obj : h.get? x = some (PySem.W.instObj C dx)
  ns : h.Ns1 dx mA
  ne : dx ≠ x

theorem lookIn_ns {h : Heap} {dx : Addr} {mA : Str → Option Value} (n : h.Ns1 dx mA) : ∃ od, h.get? dx = some od ∧ ∀ name, PySem.W.lookIn name od = some (mA name) := by
  obtain ⟨o, es, ep, ho, hd, hk, _, hm⟩ := n
  refine ⟨o, ho, fun name => ?_⟩
  have e := hm name
  unfold nsFind findBy at e
  rw [← Array.find?_toList] at e
  unfold PySem.W.lookIn
  rw [hd]
  dsimp only
  split
  · rename_i y q
    rw [q] at e
    exact congrArg some e
  · rename_i q
    rw [q] at e
    have a : es.toList.any (·.refKey) = false := by
      rw [List.any_eq_false]
      intro y hy
      obtain ⟨z, t, hkey⟩ := hk y (Array.mem_toList_iff.mp hy)
      simp [DictEntry.refKey, hkey]
    have a' : ¬ es.toList.any (·.refKey) = true := by rw [a]; exact Bool.false_ne_true
    rw [if_neg a']
    exact congrArg some e

theorem ObjM.look {h : Heap} {x dx C : Addr} {mA : Str → Option Value} (I : ObjM h x dx C mA) : ∃ od, PySem.W.InstAt h x (PySem.W.instObj C dx) C (some od) ∧ ∀ name, PySem.W.lookIn name od = some (mA name) :=
  let ⟨od, ho, hl⟩ := lookIn_ns I.ns
  ⟨od, ⟨I.obj, rfl, rfl, ho⟩, hl⟩

section
variable {prog : Program} {w : World} {A : Around} {E : Value → Shared → Prop} {s : Shared} {K : PySem.W.Frag} {x dx C f : Addr} {mA : Str → Option Value} {name : Str} {v : Value}

theorem get_map {expr : Bool} {Q : Value → Shared → Prop} (X : K.In s.heap) (I : ObjM s.heap x dx C mA) (hg : PySem.W.plainGet K C name = true) (hh : PySem.W.hasDictIn K C = true)
    (ha : PySem.W.findIn K (.ref C) name = some none) (hv : mA name = some v) (hv' : PySem.W.handedIn v = true) (h : Q v { s with toks := s.toks + 1 }) :
    wpAny (model prog w) A (getAttr (.ref x) name expr) Q E s := by
  obtain ⟨od, J, hl⟩ := I.look
  exact PySem.W.get_value X J (PySem.W.plainGet_of hg).1 (PySem.W.findObj_own hh ha rfl (by rw [hl, hv])) hv' h

theorem get_const {expr : Bool} {a : Value} {Q : Value → Shared → Prop} (X : K.In s.heap) (I : ObjM s.heap x dx C mA) (hg : PySem.W.plainGet K C name = true) (hh : PySem.W.hasDictIn K C = true)
    (ha : PySem.W.findIn K (.ref C) name = some (some a)) (hn : PySem.W.specialIn K a "__get__" = some none) (hc : PySem.W.copiedNames.contains name = false) (hv : mA name = none) (hv' : PySem.W.handedIn a = true)
    (h : Q a { s with toks := s.toks + 1 }) : wpAny (model prog w) A (getAttr (.ref x) name expr) Q E s := by
  obtain ⟨od, J, hl⟩ := I.look
  exact PySem.W.get_value X J (PySem.W.plainGet_of hg).1 (PySem.W.findObj_cls hh ha hn hv' hc (by rw [hl, hv])) hv' h

theorem get_meth {pl : Sem Bool} {Q : Value × List Value → Shared → Prop} (X : K.In s.heap) (I : ObjM s.heap x dx C mA) (hg : PySem.W.plainGet K C name = true)
    (hf : PySem.W.findIn K (.ref C) name = some (some (.ref f))) (ht : PySem.W.isFn K (.ref f) = true) (hv : mA name = none) (h : Q (.ref f, [.ref x]) s) :
    wpAny (model prog w) A (getMethod (.ref x) name pl) Q E s := by
  obtain ⟨od, J, hl⟩ := I.look
  exact PySem.W.method_fn X J (PySem.W.plainGet_of hg).1 (PySem.W.plainGet_of hg).2 hf (beq_iff_eq.mp ht) (by show (PySem.W.lookIn name od).map (·.isSome) = some false; rw [hl, hv]; rfl) h

theorem set_map {ns : List Str} {Q : Unit → Shared → Prop} (X : K.In s.heap) (I : ObjM s.heap x dx C mA)
    (hs : PySem.W.findIn K (.ref C) "__setattr__" = some (some (.builtin "object.__setattr__"))) (hp : PySem.W.plainOver K C = true) (ht : PySem.W.takerIn K C name = some none) (hh : PySem.W.hasDictIn K C = true)
    (hw : PySem.Within mA ns) (hsz : ns.length ≤ sizeLine)
    (h : ∀ h', ObjM h' x dx C (fun y => if y = name then some v else mA y) → Heap.SameBut dx s.heap h' → Q () { s with heap := h', toks := s.toks + 2 }) :
    wpAny (model prog w) A (setAttr (.ref x) name v) Q E s := by
  obtain ⟨od, J, hl⟩ := I.look
  refine PySem.W.set_plain X J hs (PySem.W.osa_open (s := { s with toks := s.toks + 1 }) (r := none) X J hp ht fun b => ?_)
  obtain ⟨cd, hc, hd'⟩ := PySem.W.any_some hh
  have hx : s.heap.get? x = some ⟨.ref C, some dx, .plain, #[]⟩ := I.obj
  refine wpAny_bind (wpAny_pure (wpAny_bind (wpAny_bind (wpAny_loadPart hx (wpAny_bind (PySem.W.Looks.here (s := { s with toks := s.toks + 1 }) (PySem.W.looks_clsIn X hc) ?_))))))
  rw [hd']
  refine wpAny_pure (a := some dx) (wpAny_bind (wpAny_pure (wpAny_bind ?_)))
  refine wpAny_nsSet1 (s := { s with toks := s.toks + 1 }) I.ns fun h' hn2 hs2 => ?_
  obtain ⟨oD, esD, epD, hoD, hdD, hcD⟩ := hn2.count (PySem.Within.cons name v hw)
  refine wpAny_bind (wpAny_lookBehind hoD (by rw [hdD]; exact pastItsLine_dict (Nat.le_trans hcD (by rw [List.length_cons]; omega))) ?_)
  exact wpAny_pure (h _ ⟨(hs2.2 _ (Ne.symm I.ne)).trans I.obj, hn2, I.ne⟩ hs2)

theorem make_map {R : Result → Shared → Prop} {vs : List Value} {kw : List (Str × Value)} (X : K.In s.heap) (hm : PySem.W.makesIn K C = true)
    (hi : PySem.W.findIn K (.ref C) "__init__" = some (some (.ref f))) (hf : PySem.W.typeIn K (.ref f) = some (.type "function"))
    (h : codeAny (model prog w) (A.under (.builtin "type.__call__" ⟨.ref C :: vs, kw⟩)) (.call (.ref f) ⟨.ref (s.heap.objs.size + 1) :: vs, kw⟩) (PySem.W.InitBack (s.heap.objs.size + 1) R)
      { s with heap := (s.heap.push PySem.W.emptyDict).push (PySem.W.instObj C s.heap.objs.size) }) :
    codeAny (model prog w) A (.call (.ref C) ⟨vs, kw⟩) R s := by
  obtain ⟨hh, g, d, t, os⟩ := s
  exact PySem.W.make_core (PySem.W.makes_of X hm) (PySem.W.looks_findIn X hi) (fun self => PySem.W.bind_fn X self hf) (.inl rfl) h
theorem make_map0 {R : Result → Shared → Prop} (X : K.In s.heap) (hm : PySem.W.makesIn K C = true)
    (hi : PySem.W.findIn K (.ref C) "__init__" = some (some (.builtin "object.__init__")))
    (hb : ∀ self, PySem.W.Looks (model prog w) s.heap (bindSpecial (.builtin "object.__init__") self) (.builtin "object.__init__", [self]))
    (h : codeAny (model prog w) (A.under (.builtin "type.__call__" ⟨[.ref C], []⟩)) (.call (.builtin "object.__init__") ⟨[.ref (s.heap.objs.size + 1)], []⟩) (PySem.W.InitBack (s.heap.objs.size + 1) R)
      { s with heap := (s.heap.push PySem.W.emptyDict).push (PySem.W.instObj C s.heap.objs.size) }) :
    codeAny (model prog w) A (.call (.ref C) ⟨[], []⟩) R s := by
  obtain ⟨hh, g, d, t, os⟩ := s
  exact PySem.W.make_core (PySem.W.makes_of X hm) (PySem.W.looks_findIn X hi) hb (.inr ⟨rfl, rfl⟩) h
end

def putF (f : Str) (v : V) : List (Str × V) → List (Str × V)
  | [] => [(f, v)]
  | (g, x) :: r => if g = f then (g, v) :: r else (g, x) :: putF f v r
theorem lookup_putF (f g : Str) (v : V) : ∀ fs : List (Str × V), (putF f v fs).lookup g = if g = f then some v else fs.lookup g
  | [] => by
    show List.lookup g [(f, v)] = _
    by_cases h : g = f
    · have hb : (g == f) = true := beq_iff_eq.mpr h
      simp only [List.lookup, hb, if_pos h]
    · have hb : (g == f) = false := beq_eq_false_iff_ne.mpr h
      simp only [List.lookup, hb, if_neg h]
  | (k, x) :: r => by
    have ih := lookup_putF f g v r
    rw [show putF f v ((k, x) :: r) = (if k = f then (k, v) :: r else (k, x) :: putF f v r) from rfl]
    by_cases hk : k = f
    · rw [if_pos hk]
      by_cases h : g = k
      · have hb : (g == k) = true := beq_iff_eq.mpr h
        simp only [List.lookup, hb, if_pos (h.trans hk)]
      · have hb : (g == k) = false := beq_eq_false_iff_ne.mpr h
        simp only [List.lookup, hb, if_neg (fun e : g = f => h (e.trans hk.symm))]
    · rw [if_neg hk]
      by_cases h : g = k
      · have hb : (g == k) = true := beq_iff_eq.mpr h
        simp only [List.lookup, hb, if_neg (fun e : g = f => hk (h.symm.trans e))]
      · have hb : (g == k) = false := beq_eq_false_iff_ne.mpr h
        simp only [List.lookup, hb]
        exact ih
theorem keys_putF (f : Str) (v : V) : ∀ fs : List (Str × V), f ∈ (putF f v fs).map (·.1) ∧ ∀ g, g ∈ fs.map (·.1) → g ∈ (putF f v fs).map (·.1)
  | [] => ⟨by simp [putF], fun g h => by simp at h⟩
  | (k, x) :: r => by
    obtain ⟨i1, i2⟩ := keys_putF f v r
    rw [show putF f v ((k, x) :: r) = (if k = f then (k, v) :: r else (k, x) :: putF f v r) from rfl]
    by_cases hk : k = f
    · rw [if_pos hk]
      subst hk
      exact ⟨by simp, fun g h => by simpa using h⟩
    · rw [if_neg hk]
      refine ⟨?_, fun g h => ?_⟩
      · rw [List.map_cons]
        exact List.mem_cons_of_mem _ i1
      · rw [List.map_cons] at h ⊢
        rcases List.mem_cons.mp h with e | e
        · exact List.mem_cons.mpr (.inl e)
        · exact List.mem_cons_of_mem _ (i2 g e)
theorem length_putF (f : Str) (v : V) : ∀ fs : List (Str × V), (putF f v fs).length ≤ fs.length + 1
  | [] => by simp [putF]
  | (k, x) :: r => by
    have ih := length_putF f v r
    rw [show putF f v ((k, x) :: r) = (if k = f then (k, v) :: r else (k, x) :: putF f v r) from rfl]
    by_cases hk : k = f
    · rw [if_pos hk, List.length_cons, List.length_cons]; omega
    · rw [if_neg hk, List.length_cons, List.length_cons]; omega

theorem RelO.some_of {v : V} {o : Option Value} (r : RelO (some v) o) : ∃ u, o = some u ∧ RelV v u := by
  cases o with
  | none => exact (show False from r).elim
  | some u => exact ⟨u, rfl, r⟩
theorem RelO.none_of {o : Option Value} (r : RelO none o) : o = none := by
  cases o with
  | none => rfl
  | some u => exact (show False from r).elim
theorem handed_of {v : V} {u : Value} (r : RelV v u) : PySem.W.handedIn u = true := by
  cases v with
  | non => cases (show u = Value.none from r); rfl
  | bl b => cases (show u = Value.bool b from r); rfl
  | int i => obtain ⟨t, e⟩ := (show ∃ t, u = Value.int i t from r); cases e; rfl
  | str x => obtain ⟨t, e⟩ := (show ∃ t, u = Value.str x t from r); cases e; rfl
  | byt b => obtain ⟨t, e⟩ := (show ∃ t, u = Value.bytes b t from r); cases e; rfl
  | flt b => obtain ⟨t, e⟩ := (show ∃ t, u = Value.float b t from r); cases e; rfl
  | ref a => cases (show u = Value.ref a from r); rfl
  | ty n => cases (show u = Value.type n from r); rfl

section
variable {P : Program} {w : World} {H H' : Hp} {h h' : Heap} {a C dx : Addr} {fs fs' : List (Str × V)}
theorem ins_get (hok : HOk P w H h) (e : H a = some (.ins C dx fs)) : ∃ mA, ObjM h a dx C mA ∧ (∀ f, RelO (fs.lookup f) (mA f)) ∧ PySem.Within mA (fs.map (·.1)) ∧ fs.length ≤ 1000 ∧ H dx = some (.own a) := by
  obtain ⟨d, z, ne, ob, mA, n, r, q⟩ := (show ObjOk P w H h a (.ins C dx fs) from hok a _ e)
  exact ⟨mA, ⟨ob, n, ne⟩, r, q, z, d⟩
end

structure Cls (K : PySem.W.Frag) (C : Addr) : Prop where
  pg : PySem.W.plainGet K C Str.empty = true
  hd : PySem.W.hasDictIn K C = true
  po : PySem.W.plainOver K C = true
  sa : PySem.W.findIn K (.ref C) "__setattr__" = some (some (.builtin "object.__setattr__"))
theorem Cls.get {K : PySem.W.Frag} {C : Addr} (c : Cls K C) (f : Str) : PySem.W.plainGet K C f = true := c.pg
def NoAttr (K : PySem.W.Frag) (C : Addr) (f : Str) : Prop := PySem.W.findIn K (.ref C) f = some none
theorem NoAttr.taker {K : PySem.W.Frag} {C : Addr} {f : Str} (n : NoAttr K C f) : PySem.W.takerIn K C f = some none := by
  unfold PySem.W.takerIn
  rw [show PySem.W.findIn K (.ref C) f = some none from n]
  rfl
structure Con (K : PySem.W.Frag) (C : Addr) (f : Str) (v : V) (u : Value) : Prop where
  at_ : PySem.W.findIn K (.ref C) f = some (some u)
  rel : RelV v u
  get : PySem.W.specialIn K u "__get__" = some none
  cp : PySem.W.copiedNames.contains f = false
structure Meth (K : PySem.W.Frag) (C : Addr) (m : Str) (f : Addr) : Prop where
  at_ : PySem.W.findIn K (.ref C) m = some (some (.ref f))
  fn : PySem.W.isFn K (.ref f) = true
  kp : PySem.W.keepIn K (.ref f) = true

section
variable {X : Cx} {pins : List (Addr × Obj)} {σ : St} {H : Hp} {s : Shared} {a C dx : Addr} {fs : List (Str × V)} {f : Str} {v : V} {A : Around} {E : Value → Shared → Prop}

theorem getattr_ok {b : Bool} {Q : Value → Shared → Prop} (I : Inv X pins σ H s) (e : H a = some (.ins C dx fs)) (c : Cls X.K C) (n : NoAttr X.K C f) (l : fs.lookup f = some v)
    (h : ∀ u s', Inv X pins σ H s' → RelV v u → Q u s') : wpAny (model X.prog X.w) A (getAttr (.ref a) f b) Q E s := by
  obtain ⟨mA, O, r, _, _, _⟩ := ins_get I.hok e
  obtain ⟨u, hu, ru⟩ := RelO.some_of (v := v) (o := mA f) (by rw [← l]; exact r f)
  exact get_map I.kIn O (c.get f) c.hd n hu (handed_of ru) (h u _ (I.tok _) ru)

theorem getcon_ok {b : Bool} {u : Value} {Q : Value → Shared → Prop} (I : Inv X pins σ H s) (e : H a = some (.ins C dx fs)) (c : Cls X.K C) (k : Con X.K C f v u) (l : fs.lookup f = none)
    (h : ∀ s', Inv X pins σ H s' → Q u s') : wpAny (model X.prog X.w) A (getAttr (.ref a) f b) Q E s := by
  obtain ⟨mA, O, r, _, _, _⟩ := ins_get I.hok e
  have hn : mA f = none := RelO.none_of (by rw [← l]; exact r f)
  exact get_const I.kIn O (c.get f) c.hd k.at_ k.get k.cp hn (handed_of k.rel) (h _ (I.tok _))

theorem getmeth_ok {m : Str} {g : Addr} {pl : Sem Bool} {Q : Value × List Value → Shared → Prop} (I : Inv X pins σ H s) (e : H a = some (.ins C dx fs)) (c : Cls X.K C) (k : Meth X.K C m g) (l : fs.lookup m = none)
    (h : Q (.ref g, [.ref a]) s) : wpAny (model X.prog X.w) A (getMethod (.ref a) m pl) Q E s := by
  obtain ⟨mA, O, r, _, _, _⟩ := ins_get I.hok e
  have hn : mA m = none := RelO.none_of (by rw [← l]; exact r m)
  exact get_meth I.kIn O (c.get m) k.at_ k.fn hn h

theorem setattr_ok {y : V} {u : Value} {Q : Unit → Shared → Prop} (I : Inv X pins σ H s) (e : H a = some (.ins C dx fs)) (c : Cls X.K C) (n : NoAttr X.K C f) (hl : fs.length < 1000) (ry : RelV y u)
    (h : ∀ s', Inv X pins σ (upd H a (.ins C dx (putF f y fs))) s' → Q () s') : wpAny (model X.prog X.w) A (setAttr (.ref a) f u) Q E s := by
  obtain ⟨mA, O, r, wi, _, ho⟩ := ins_get I.hok e
  have hz : (fs.map (·.1)).length ≤ sizeLine := by rw [List.length_map, sizeLine_eq]; omega
  refine set_map I.kIn O c.sa c.po n.taker c.hd wi hz fun h' O' sb => h _ ?_
  have hd : ∃ o, h'.get? dx = some o := let ⟨o, _, _, e', _⟩ := O'.ns; ⟨o, e'⟩
  refine I.write (x := a) (e := dx) (by rw [e]; exact True.intro) (.inr ho) (fun b q hb z => (sb.2 b hb).trans z) hd ?_
  refine ⟨by rw [upd_ne O.ne]; exact ho, ?_, O.ne, O'.obj, _, O'.ns, fun g => ?_, fun g hg => ?_⟩
  · have := length_putF f y fs; omega
  · show RelO ((putF f y fs).lookup g) (if g = f then some u else mA g)
    rw [lookup_putF]
    by_cases q : g = f
    · rw [if_pos q, if_pos q]; exact ry
    · rw [if_neg q, if_neg q]; exact r g
  · by_cases q : g = f
    · rw [q]; exact (keys_putF f y fs).1
    · refine (keys_putF f y fs).2 g (wi g fun z => hg ?_)
      show (if g = f then some u else mA g) = none
      rw [if_neg q]; exact z

theorem Inv.made (I : Inv X pins σ H s) : Inv X pins σ (upd (upd H s.heap.objs.size (.own (s.heap.objs.size + 1))) (s.heap.objs.size + 1) (.ins C s.heap.objs.size []))
    { s with heap := (s.heap.push PySem.W.emptyDict).push (PySem.W.instObj C s.heap.objs.size) } := by
  have e1 : (s.heap.push PySem.W.emptyDict).get? s.heap.objs.size = some PySem.W.emptyDict := Heap.get?_push_size s.heap rfl
  have e2 : ((s.heap.push PySem.W.emptyDict).push (PySem.W.instObj C s.heap.objs.size)).get? (s.heap.objs.size + 1) = some (PySem.W.instObj C s.heap.objs.size) := by
    have := Heap.get?_push_size (s.heap.push PySem.W.emptyDict) (o := PySem.W.instObj C s.heap.objs.size) rfl
    rwa [Heap.size_push] at this
  have e3 : (s.heap.push PySem.W.emptyDict).Ns s.heap.objs.size (fun _ => none) := ⟨PySem.W.emptyDict, #[], _, e1, rfl, (fun e he => absurd he (by simp)), fun _ => rfl⟩
  have I1 := I.laid (a := s.heap.objs.size) (o := .own (s.heap.objs.size + 1)) (h' := s.heap.push PySem.W.emptyDict) (t' := s.toks) (fun b u q => Heap.get?_push_of_some _ q) (Nat.le_refl _) ⟨_, e1⟩
  refine I1.laid (a := s.heap.objs.size + 1) (o := .ins C s.heap.objs.size []) (t' := s.toks) (fun b u q => Heap.get?_push_of_some _ q) (Nat.le_of_eq (Heap.size_push _ _)) ?_
  have ne : s.heap.objs.size ≠ s.heap.objs.size + 1 := Nat.ne_of_lt (Nat.lt_succ_self _)
  refine ⟨by rw [upd_ne ne, upd_same], Nat.zero_le _, ne, e2, fun _ => none, (Heap.Ns1.of_empty e3).at fun o q => Heap.get?_push_of_some _ q, fun _ => True.intro, fun y hy => absurd rfl hy⟩

theorem attr_of {prog : Program} {w : World} {env : Env} {e : Expr} {f : Str} {pos : Pos} {s : Shared} {Q : Value → Shared → Prop} (hb : attributeBase e f env (eval e env) = eval e env)
    (h : wpAny (model prog w) A (eval e env) (fun o s₁ => wpAny (model prog w) A (getAttr o f true) Q E s₁) E s) : wpAny (model prog w) A (eval (.Attribute e f pos) env) Q E s :=
  Attribute_any_ h (by rw [arm_eval_Attribute, hb])
end

def tFld (K : PySem.W.Frag) (ta : TE) (f : Str) : TE := fun σ H Q => ta σ H fun x H1 => ∃ a C dx fs v, x = .ref a ∧ H1 a = some (.ins C dx fs) ∧ Cls K C ∧ NoAttr K C f ∧ fs.lookup f = some v ∧ Q v H1
def tCon (K : PySem.W.Frag) (ta : TE) (f : Str) : TE := fun σ H Q => ta σ H fun x H1 => ∃ a C dx fs v u, x = .ref a ∧ H1 a = some (.ins C dx fs) ∧ Cls K C ∧ Con K C f v u ∧ fs.lookup f = none ∧ Q v H1
def sFld (K : PySem.W.Frag) (ta tv : TE) (f : Str) : TS := fun D σ H => tv σ H fun y H1 => ta σ H1 fun x H2 => ∃ a C dx fs, x = .ref a ∧ H2 a = some (.ins C dx fs) ∧ Cls K C ∧ NoAttr K C f ∧ fs.length < 1000 ∧
  D.nx σ (upd H2 a (.ins C dx (putF f y fs)))
def InOp (X : Cx) (op : Operator) (rd : V → V → Hp → VK → Prop) : Prop :=
  ∀ (pins : List (Addr × Obj)) (s : Shared) (σ : St) (H : Hp) (x y : V) (u v : Value) (Q : VK), Inv X pins σ H s → RelV x u → RelV y v → rd x y H Q → wpAny (model X.prog X.w) X.A (inplaceOp op u v) (EP X pins σ Q) X.xe s
def sFldAug (K : PySem.W.Frag) (ta tv : TE) (rd : V → V → Hp → VK → Prop) (f : Str) : TS := fun D σ H => ta σ H fun x H1 => ∃ a C dx fs v, x = .ref a ∧ H1 a = some (.ins C dx fs) ∧ Cls K C ∧ NoAttr K C f ∧ fs.lookup f = some v ∧
  tv σ H1 fun y H2 => rd v y H2 fun z H3 => ∃ dx' fs', H3 a = some (.ins C dx' fs') ∧ fs'.length < 1000 ∧ D.nx σ (upd H3 a (.ins C dx' (putF f z fs')))

section
variable {X : Cx} {o e value : Expr} {f : Str} {pos pos' tpos : Pos} {ta tv : TE}
theorem pe_fld (he : PE X e ta) (hb : attributeBase e f X.env (eval e X.env) = eval e X.env) : PE X (.Attribute e f pos) (tFld X.K ta f) := by
  intro pins s σ H Q I h
  refine attr_of hb (thn (he pins s σ H _ I h) fun u s1 ⟨x, H1, I1, rx, a, C, dx, fs, v, ex, ea, c, n, l, q⟩ => ?_)
  subst ex
  obtain rfl : u = Value.ref a := rx
  exact getattr_ok I1 ea c n l fun u' s2 I2 ru => ⟨v, H1, I2, ru, q⟩
theorem pe_con (he : PE X e ta) (hb : attributeBase e f X.env (eval e X.env) = eval e X.env) : PE X (.Attribute e f pos) (tCon X.K ta f) := by
  intro pins s σ H Q I h
  refine attr_of hb (thn (he pins s σ H _ I h) fun u s1 ⟨x, H1, I1, rx, a, C, dx, fs, v, u0, ex, ea, c, k, l, q⟩ => ?_)
  subst ex
  obtain rfl : u = Value.ref a := rx
  exact getcon_ok I1 ea c k l fun s2 I2 => ⟨v, H1, I2, k.rel, q⟩
theorem ps_fld (ha : PE X o ta) (hv : PE X value tv) (hs : swapsWith value (some (.Attribute o f pos')) pos.line X.env = pure false) : PS X (.Assign [.Attribute o f pos'] value pos) (sFld X.K ta tv f) := by
  intro pins s σ H D I h
  refine plainObj_wpAny_Assign_Attribute (thn (hv pins s σ H _ I h) fun u s1 ⟨y, H1, I1, ry, q⟩ => thn (ha pins s1 σ H1 _ I1 q) fun ov s2 ⟨x, H2, I2, rx, a, C, dx, fs, ex, ea, c, n, l, q2⟩ => ?_) hs
  subst ex
  obtain rfl : ov = Value.ref a := rx
  exact setattr_ok I2 ea c n l ry fun s3 I3 => ⟨σ, _, I3, q2⟩
theorem ps_fldaug {op : Operator} {rd : V → V → Hp → VK → Prop} (ha : PE X o ta) (hv : PE X value tv) (hop : InOp X op rd) : PS X (.AugAssign (.Attribute o f tpos) op value pos) (sFldAug X.K ta tv rd f) := by
  intro pins s σ H D I h
  refine wpAny_AugAssign_AttributeAny (thn (ha pins s σ H _ I h) fun ov s1 ⟨x, H1, I1, rx, a, C, dx, fs, v, ex, ea, c, n, l, q⟩ => ?_)
  subst ex
  obtain rfl : ov = Value.ref a := rx
  refine getattr_ok I1 ea c n l fun u s2 I2 ru => thn (hv pins s2 σ H1 _ I2 q) fun w3 s3 ⟨y, H2, I3, ry, q3⟩ => thn (hop pins s3 σ H2 v y u w3 _ I3 ru ry q3) fun w4 s4 ⟨z, H3, I4, rz, dx', fs', ea', l', q4⟩ => ?_
  exact setattr_ok I4 ea' c n l' rz fun s5 I5 => ⟨σ, _, I5, q4⟩
def rAdd : V → V → Hp → VK → Prop := fun x y H Q => ∃ i j, x = .int i ∧ y = .int j ∧ Q (.int (i + j)) H
def rSub : V → V → Hp → VK → Prop := fun x y H Q => ∃ i j, x = .int i ∧ y = .int j ∧ Q (.int (i - j)) H
theorem in_add : InOp X .Add rAdd := by
  rintro pins s σ H x y u v Q I rx ry ⟨i, j, rfl, rfl, q⟩
  obtain ⟨t, rfl⟩ := (show ∃ t, u = Value.int i t from rx)
  obtain ⟨t', rfl⟩ := (show ∃ t', v = Value.int j t' from ry)
  exact PyProof.Rows.iadd_int ⟨.int (i + j), H, I.tok _, ⟨_, rfl⟩, q⟩
theorem in_sub : InOp X .Sub rSub := by
  rintro pins s σ H x y u v Q I rx ry ⟨i, j, rfl, rfl, q⟩
  obtain ⟨t, rfl⟩ := (show ∃ t, u = Value.int i t from rx)
  obtain ⟨t', rfl⟩ := (show ∃ t', v = Value.int j t' from ry)
  exact PyProof.Rows.isub_int ⟨.int (i - j), H, I.tok _, ⟨_, rfl⟩, q⟩

theorem methcall_of {pl : Sem Bool} {m : Str} {apos : Pos} {args : List Expr} {pins : List (Addr × Obj)} {s : Shared} {σ : St} {H : Hp} {Q : Value → Shared → Prop} {te : TE} (he : PE X e te) (I : Inv X pins σ H s)
    (h : te σ H fun x H1 => ∃ a C dx fs g, x = .ref a ∧ H1 a = some (.ins C dx fs) ∧ Cls X.K C ∧ Meth X.K C m g ∧ fs.lookup m = none ∧
      ∀ s1, Inv X pins σ H1 s1 → wpAny (model X.prog X.w) X.A (callWith pos (.ref g) [.ref a] (backTo pos (starEach args X.env)) (backToKw pos (keywordEach [] X.env))) Q X.xe s1)
    (ht : eval (.Call (.Attribute e m apos) args [] pos) X.env = (do
      let ov ← eval e X.env
      standAt apos.atName
      let (f, first) ← holding [ov] (getMethod ov m pl)
      callWith pos f first (backTo pos (starEach args X.env)) (backToKw pos (keywordEach [] X.env)))) :
    wpAny (model X.prog X.w) X.A (eval (.Call (.Attribute e m apos) args [] pos) X.env) Q X.xe s := by
  refine PySem.W.methodCall_KW (pl := pl) (thn (he pins s σ H _ I h) fun u s1 ⟨x, H1, I1, rx, a, C, dx, fs, g, ex, ea, c, k, l, q⟩ => ?_) ht
  subst ex
  obtain rfl : u = Value.ref a := rx
  exact getmeth_ok I1 ea c k l (q s1 I1)
end

section
variable {X : Cx} {pins : List (Addr × Obj)} {σ : St} {H : Hp} {s : Shared} {A : Around} {E : Value → Shared → Prop} {Q : Value → Shared → Prop} {c : Value} {b : Bool}
inductive TyOf (K : PySem.W.Frag) (H : Hp) : V → Value → Prop where
  | non : TyOf K H .non (.type "NoneType")
  | bl (x : Bool) : TyOf K H (.bl x) (.type "bool")
  | int (i : Int) : TyOf K H (.int i) (.type "int")
  | str (x : Str) : TyOf K H (.str x) (.type "str")
  | flt (x : UInt64) : TyOf K H (.flt x) (.type "float")
  | lst {a : Addr} {xs : List V} (e : H a = some (.lst xs)) : TyOf K H (.ref a) (.type "list")
  | frz {a : Addr} {o : Obj} {xs : List V} (e : H a = some (.frz o (.lst xs))) : TyOf K H (.ref a) (.type "list")
  | tup {a : Addr} {xs : List V} (e : H a = some (.tup xs)) : TyOf K H (.ref a) (.type "tuple")
  | dK {a : Addr} {kvs : List (Key × V)} (e : H a = some (.dK kvs)) : TyOf K H (.ref a) (.type "dict")
  | dT {a : Addr} {kvs : List (List Key × V)} (e : H a = some (.dT kvs)) : TyOf K H (.ref a) (.type "dict")
  | ins {a C dx : Addr} {fs : List (Str × V)} (e : H a = some (.ins C dx fs)) (cl : Cls K C) (ha : PySem.W.findIn K (.ref C) "__class__" = some (some (.builtin "object.__class__")))
      (hn : PySem.W.specialIn K (.builtin "object.__class__") "__get__" = some (some (.builtin "getset_descriptor.__get__"))) (htk : PySem.W.takesIn K (.builtin "object.__class__") = some true)
      (hm : PySem.W.mroIn K C (.type "object") = some true) : TyOf K H (.ref a) (.ref C)
theorem isinst_ok {x : V} {u t : Value} (I : Inv X pins σ H s) (rx : RelV x u) (ty : TyOf X.K H x t) (e : PySem.W.kitOne X.K t c = some b) (h : ∀ tk, Q (.bool b) { s with toks := tk }) :
    wpAny (model X.prog X.w) A (call (.builtin "isinstance") [u, c]) Q E s := by
  cases ty with
  | non => cases (show u = Value.none from rx); exact PySem.W.kia_one PySem.W.kitx_none I.kIn True.intro e (fun z => nomatch z) h
  | bl y => cases (show u = Value.bool y from rx); exact PySem.W.kia_one PySem.W.kitx_bool I.kIn True.intro e (fun z => nomatch z) h
  | int i => obtain ⟨t, q⟩ := (show ∃ t, u = Value.int i t from rx); cases q; exact PySem.W.kia_one PySem.W.kitx_int I.kIn True.intro e (fun z => nomatch z) h
  | str y => obtain ⟨t, q⟩ := (show ∃ t, u = Value.str y t from rx); cases q; exact PySem.W.kia_one PySem.W.kitx_str I.kIn True.intro e (fun z => nomatch z) h
  | flt y => obtain ⟨t, q⟩ := (show ∃ t, u = Value.float y t from rx); cases q; exact PySem.W.kia_one PySem.W.kitx_float I.kIn True.intro e (fun z => nomatch z) h
  | @lst a xs ea =>
    cases (show u = Value.ref a from rx)
    obtain ⟨_, _, n, _, h1⟩ := (show ObjOk X.prog X.w H s.heap a (.lst xs) from I.hok a _ ea)
    exact PySem.W.kia_one PySem.W.kitx_list I.kIn ⟨_, h1, rfl⟩ e (fun z => nomatch z) h
  | @frz a ob xs ea =>
    cases (show u = Value.ref a from rx)
    obtain ⟨_, _, _, n, _, h1⟩ := (show ObjOk X.prog X.w H s.heap a (.frz ob (.lst xs)) from I.hok a _ ea)
    exact PySem.W.kia_one PySem.W.kitx_list I.kIn ⟨_, h1, rfl⟩ e (fun z => nomatch z) h
  | @tup a xs ea =>
    cases (show u = Value.ref a from rx)
    obtain ⟨_, _, _, p⟩ := (show ObjOk X.prog X.w H s.heap a (.tup xs) from I.hok a _ ea)
    obtain ⟨o, h1, h2, _⟩ := p
    exact PySem.W.kia_one PySem.W.kitx_tuple I.kIn ⟨o, h1, h2⟩ e (fun z => nomatch z) h
  | @dK a kvs ea =>
    cases (show u = Value.ref a from rx)
    obtain ⟨_, _, vs, _, p⟩ := (show ObjOk X.prog X.w H s.heap a (.dK kvs) from I.hok a _ ea)
    obtain ⟨o, es, ep, h1, h2, _⟩ := p
    exact PySem.W.kia_one PySem.W.kitx_dict I.kIn ⟨o, h1, h2.1⟩ e (fun z => nomatch z) h
  | @dT a kvs ea =>
    cases (show u = Value.ref a from rx)
    obtain ⟨_, _, xs, _, o, es, ep, h1, h2, _⟩ := (show ObjOk X.prog X.w H s.heap a (.dT kvs) from I.hok a _ ea)
    exact PySem.W.kia_one PySem.W.kitx_dict I.kIn ⟨o, h1, h2.1⟩ e (fun z => nomatch z) h
  | @ins a C dx fs ea cl ha hn htk hm =>
    cases (show u = Value.ref a from rx)
    obtain ⟨mA, O, _⟩ := ins_get I.hok ea
    obtain ⟨od, J, _⟩ := O.look
    exact PySem.W.kia_one (PySem.W.kitx_own (cl.get _) cl.hd ha hn htk hm) I.kIn J e (fun z => nomatch z) h
end
end L2

namespace L2
open PySem PySem.Spec PyProof.Rows

structure Room (k : Nat) (A : Around) : Prop where
  hd : A.handled = none
  dp : A.depth + 3 * k + 5 < recursionLimit
  un : A.units + 16 * k + 200 < cLine
theorem Room.mono {j k : Nat} {A : Around} (r : Room k A) (h : j ≤ k) : Room j A := ⟨r.hd, by have := r.dp; omega, by have := r.un; omega⟩
theorem Room.deeper {k : Nat} {A : Around} (r : Room (k + 1) A) (env : Env) : Room k (A.deeper env) :=
  ⟨r.hd, by have := r.dp; show A.depth + 1 + 3 * k + 5 < _; omega, by have := r.un; show A.units + 3 + 16 * k + 200 < _; omega⟩
theorem Room.in1 {k : Nat} {A : Around} (r : Room (k + 1) A) : Room k A.in1 :=
  ⟨r.hd, by have := r.dp; show A.depth + 3 * k + 5 < _; omega, by have := r.un; show A.units + 1 + 16 * k + 200 < _; omega⟩
theorem make_depth {A : Around} {C : Addr} {us : List Value} {kw : List (Str × Value)} : (A.under (.builtin "type.__call__" ⟨.ref C :: us, kw⟩)).depth = A.depth + 1 := by
  first | rfl | simp [Around.under, Code.weight, Code.isCreation, Code.isGuard, Code.isCaller, Code.frames, Code.isFrame, guardIds]
theorem make_units {A : Around} {C : Addr} {us : List Value} {kw : List (Str × Value)} : (A.under (.builtin "type.__call__" ⟨.ref C :: us, kw⟩)).units = A.units + 1 := by
  first | rfl | simp [Around.under, Code.cUnits, Code.frames, Code.isFrame]
theorem Room.make {k : Nat} {A : Around} (r : Room (k + 1) A) (C : Addr) (us : List Value) (kw : List (Str × Value)) : Room k (A.under (.builtin "type.__call__" ⟨.ref C :: us, kw⟩)) :=
  ⟨r.hd, by have := r.dp; rw [make_depth]; omega, by have := r.un; rw [make_units]; omega⟩
theorem Room.depth {k : Nat} {A : Around} (r : Room k A) : A.depth < recursionLimit := by have := r.dp; omega
theorem Room.units {k : Nat} {A : Around} (r : Room k A) : A.units + 64 < cLine := by have := r.un; omega
theorem Room.units0 {k : Nat} {A : Around} (r : Room k A) : A.units < cLine := by have := r.un; omega

def tNil : TA := fun _ H Q => Q [] H
def tCons (ta : TE) (tr : TA) : TA := fun σ H Q => ta σ H fun x H1 => tr σ H1 fun xs H2 => Q (x :: xs) H2
section
variable {X : Cx} {e : Expr} {es : List Expr} {te : TE} {t : TA} {pos : Pos}
theorem pa_nil : PA X [] tNil := fun _ _ _ _ H Q I h => Calls.spliced_nil ⟨[], H, I, .nil, h⟩
theorem pa_cons (ha : PE X e te) (hr : PA X es t) (hs : starEach (e :: es) X.env = (false, eval e X.env) :: starEach es X.env := by rfl) : PA X (e :: es) (tCons te t) := by
  intro pos pins s σ H Q I h
  rw [hs]
  show wpAny _ _ (spliced ((false, eval e X.env) :: backTo pos (starEach es X.env))) _ _ s
  refine Calls.spliced_cons (thn (ha pins s σ H _ I h) fun u s1 ⟨x, H1, I1, r1, q1⟩ => ?_)
  exact thn (hr pos pins s1 σ H1 _ I1 q1) fun us s2 ⟨xs, H2, I2, r2, q2⟩ => ⟨x :: xs, H2, I2, .cons r1 r2, q2⟩

def tTup (t : TA) : TE := fun σ H Q => t σ H fun xs H1 => xs.length ≤ sizeLine ∧ ∀ p, H1 p = none → Q (.ref p) (upd H1 p (.tup xs))
def tLst (t : TA) : TE := fun σ H Q => t σ H fun xs H1 => xs.length ≤ sizeLine ∧ ∀ p, H1 p = none → Q (.ref p) (upd H1 p (.lst xs))
theorem pe_tup {x1} (h : PA X es t) : PE X (.Tuple es x1 pos) (tTup t) := by
  intro pins s σ H Q I hq
  refine wpAny_Tuple_spliced (thn (h pos pins s σ H _ I hq) fun us s1 ⟨xs, H1, I1, r, z, q⟩ => ⟨by rw [← r.length]; exact z, ?_⟩)
  have hf : H1 s1.heap.objs.size = none := I1.hok.fresh (Nat.le_refl _)
  refine ⟨.ref s1.heap.objs.size, upd H1 s1.heap.objs.size (.tup xs), I1.laid (t' := s1.toks) (fun b u e => Heap.get?_push_of_some _ e) (Nat.le_refl _) ?_, rfl, q _ hf⟩
  exact ⟨z, us, r, ⟨_, Heap.get?_push_size _ rfl, rfl, _, rfl⟩⟩
theorem pe_lst (h : PA X es t) : PE X (.List es pos) (tLst t) := by
  intro pins s σ H Q I hq
  refine wpAny_List_spliced (thn (h pos pins s σ H _ I hq) fun us s1 ⟨xs, H1, I1, r, z, q⟩ => ⟨by rw [← r.length]; exact z, ?_⟩)
  have hf : H1 s1.heap.objs.size = none := I1.hok.fresh (Nat.le_refl _)
  refine ⟨.ref s1.heap.objs.size, upd H1 s1.heap.objs.size (.lst xs), I1.laid (t' := s1.toks) (fun b u e => Heap.get?_push_of_some _ e) (Nat.le_refl _) ?_, rfl, q _ hf⟩
  exact ⟨z, us, 0, r, Heap.get?_push_size _ rfl⟩
end

abbrev Sp := List V → Hp → VK → XK → Prop
abbrev CXT := List Env → Hp → Shared → XK → Value → Shared → Prop

structure Env0 (P : Program) (w : World) (K : PySem.W.Frag) (mg : Str → Option Value) (base : Heap) (A : Around) (outer : List Env) (s : Shared) (H : Hp) : Prop where
  frames : A.frames = some outer
  mod : Mod K mg base
  bs : ∀ b o, base.get? b = some o → s.heap.get? b = some o ∧ H b = none
  bsz : base.objs.size ≤ s.heap.objs.size
  funs : s.heap.FunFrames base outer
  frf : ∀ b ∈ frs outer, H b = none
  hok : HOk P w H s.heap
  bare : AllBare s.gens
def CE (outer : List Env) (P : Program) (w : World) (H : Hp) (s : Shared) (Q : VK) (u : Value) (s' : Shared) : Prop :=
  ∃ v H', s'.os = s.os ∧ AllBare s'.gens ∧ Un (frs outer) [] H H' s.heap s'.heap ∧ HOk P w H' s'.heap ∧ RelV v u ∧ Q v H'
def CR (CX : CXT) (outer : List Env) (P : Program) (w : World) (H : Hp) (s : Shared) (Q : VK) (E : XK) (r : Result) (s' : Shared) : Prop :=
  match r with
  | .ok (.ret u) => CE outer P w H s Q u s'
  | .ok _ => False
  | .error e => CX outer H s E e s'
structure FnOk (P : Program) (w : World) (K : PySem.W.Frag) (mg : Str → Option Value) (base : Heap) (CX : CXT) (k : Nat) (f : Addr) (fd : FuncData) (ps : List Str) (sp : Sp) : Prop where
  len : ∀ vs H Q E, sp vs H Q E → vs.length = ps.length
  run : ∀ (A : Around) (outer : List Env) (s : Shared) (H : Hp) (args : Args) (us : List Value) (vs : List V) (Q : VK) (E : XK), Room k A → Env0 P w K mg base A outer s H → BindsTo s fd args (ps.zip us) → Vals vs us → sp vs H Q E →
    codeAny (model P w) A (.call (.ref f) args) (CR CX outer P w H s Q E) s
theorem FnOk.mono {P : Program} {w : World} {K : PySem.W.Frag} {mg : Str → Option Value} {base : Heap} {CX : CXT} {j k : Nat} {f : Addr} {fd : FuncData} {ps : List Str} {sp : Sp} (F : FnOk P w K mg base CX j f fd ps sp) (h : j ≤ k) :
    FnOk P w K mg base CX k f fd ps sp := ⟨F.len, fun A outer s H args us vs Q E hr => F.run A outer s H args us vs Q E (hr.mono h)⟩
theorem FnOk.imp {P : Program} {w : World} {K : PySem.W.Frag} {mg : Str → Option Value} {base : Heap} {CX : CXT} {k : Nat} {f : Addr} {fd : FuncData} {ps : List Str} {sp sp' : Sp} (F : FnOk P w K mg base CX k f fd ps sp)
    (h : ∀ vs H Q E, sp' vs H Q E → sp vs H Q E) : FnOk P w K mg base CX k f fd ps sp' :=
  ⟨fun vs H Q E q => F.len vs H Q E (h _ _ _ _ q), fun A outer s H args us vs Q E hr he hb hv hs => F.run A outer s H args us vs Q E hr he hb hv (h _ _ _ _ hs)⟩

theorem Env0.make {P : Program} {w : World} {K : PySem.W.Frag} {mg : Str → Option Value} {base : Heap} {A : Around} {outer : List Env} {s : Shared} {H : Hp} (e : Env0 P w K mg base A outer s H) (C : Addr) (us : List Value) (kw : List (Str × Value)) :
    Env0 P w K mg base (A.under (.builtin "type.__call__" ⟨.ref C :: us, kw⟩)) outer s H := ⟨by first | exact e.frames | (simpa [Around.under, Code.envs, Code.isFrame, pushEnvs] using e.frames), e.mod, e.bs, e.bsz, e.funs, e.frf, e.hok, e.bare⟩
theorem Env0.in1 {P : Program} {w : World} {K : PySem.W.Frag} {mg : Str → Option Value} {base : Heap} {A : Around} {outer : List Env} {s : Shared} {H : Hp} (e : Env0 P w K mg base A outer s H) :
    Env0 P w K mg base A.in1 outer s H := ⟨e.frames, e.mod, e.bs, e.bsz, e.funs, e.frf, e.hok, e.bare⟩

section
variable {X : Cx} {pins : List (Addr × Obj)} {σ : St} {H : Hp} {s s' : Shared}
theorem Inv.env0 (I : Inv X pins σ H s) : Env0 X.prog X.w X.K X.mg X.base X.A X.stack s H :=
  ⟨I.ok.frames, I.ok.mod, I.bs, Nat.le_trans I.ok.bsz I.sz, I.stack, I.stkFree, I.hok, I.bare⟩
theorem Inv.after {Q : VK} {u : Value} (I : Inv X pins σ H s) (h : CE X.stack X.prog X.w H s Q u s') : EP X pins σ Q u s' := by
  obtain ⟨v, H', os, bare, un, hok, r, q⟩ := h
  obtain ⟨hh, g, d, t, os'⟩ := s'
  obtain rfl : os' = s.os := os
  exact ⟨v, H', I.call (h' := hh) (g' := g) (d' := d) (t' := t) (ch := []) un hok bare (fun b z => absurd z (by simp)), r, q⟩
end

def tCall (sp : Sp) (dvs : List V) (E : XK) (t : TA) : TE := fun σ H Q => t σ H fun vs H1 => sp (vs ++ dvs) H1 Q E
def tMeth (C : Addr) (m : Str) (sp : Sp) (dvs : List V) (E : XK) (ta : TE) (t : TA) : TE := fun σ H Q => ta σ H fun x H1 => ∃ a dx fs, x = .ref a ∧ H1 a = some (.ins C dx fs) ∧ fs.lookup m = none ∧
  t σ H1 fun vs H2 => sp (x :: (vs ++ dvs)) H2 Q E
def tMake (C : Addr) (sp : Sp) (dvs : List V) (E : XK) (t : TA) : TE := fun σ H Q => t σ H fun vs H1 => ∀ x dx, H1 x = none → H1 dx = none → dx ≠ x →
  sp (.ref x :: (vs ++ dvs)) (upd (upd H1 dx (.own x)) x (.ins C dx [])) (fun v H2 => v = .non ∧ Q (.ref x) H2) E

def Binds (K : PySem.W.Frag) (fd : FuncData) (ps : List Str) (ds : List Value) : Prop :=
  ∀ (s : Shared) (us : List Value), K.In s.heap → (us ++ ds).length = ps.length → BindsTo s fd ⟨us, []⟩ (ps.zip (us ++ ds))
theorem Binds.all {K : PySem.W.Frag} {fd : FuncData} {ps : List Str} (h : ∀ us : List Value, us.length = ps.length → bindArgs fd ⟨us, []⟩ = pure (ps.zip us)) : Binds K fd ps [] := fun s us _ hl => by
  rw [List.append_nil] at hl ⊢
  exact .of_eq (h us hl)

def Passes (CX : CXT) (X : Cx) (E : XK) : Prop := ∀ (pins : List (Addr × Obj)) (σ : St) (H : Hp) (s : Shared) (e : Value) (s' : Shared), Inv X pins σ H s → CX X.stack H s E e s' → X.xe e s'

section
variable {X : Cx} {CX : CXT} {k : Nat} {f C : Addr} {fd : FuncData} {ps : List Str} {sp : Sp} {dvs : List V} {ds : List Value} {E : XK} {x m : Str} {p pos apos : Pos} {e o : Expr} {es : List Expr} {ta : TE} {t : TA}

theorem run_fn {pins : List (Addr × Obj)} {σ : St} {H : Hp} {s : Shared} {Q : VK} {us : List Value} {vs : List V} (F : FnOk X.prog X.w X.K X.mg X.base CX k f fd ps sp) (hr : Room k X.A) (hb : Binds X.K fd ps ds) (hd : Vals dvs ds) (hx : Passes CX X E)
    (I : Inv X pins σ H s) (r : Vals vs us) (h : sp (vs ++ dvs) H Q E) : wpAny (model X.prog X.w) X.A (call (.ref f) us) (EP X pins σ Q) X.xe s := by
  have r2 : Vals (vs ++ dvs) (us ++ ds) := r.append hd
  have hl : (us ++ ds).length = ps.length := by rw [← r2.length]; exact F.len _ _ _ _ h
  refine wpAny_call (codeAny_mono (F.run X.A X.stack s H ⟨us, []⟩ (us ++ ds) (vs ++ dvs) Q E hr I.env0 (hb s us I.kIn hl) r2 h) fun r s' hq => ?_)
  cases r with
  | error e => exact hx pins σ H s e s' I hq
  | ok fl =>
    cases fl with
    | ret u => exact I.after hq
    | next => exact False.elim hq
    | brk => exact False.elim hq
    | cont => exact False.elim hq

theorem pe_call (F : FnOk X.prog X.w X.K X.mg X.base CX k f fd ps sp) (hr : Room k X.A) (hg : Gl X x) (hm : X.mg x = some (.ref f)) (hk : PySem.W.keepIn X.K (.ref f) = true) (hb : Binds X.K fd ps ds) (hd : Vals dvs ds) (hx : Passes CX X E)
    (ha : PA X (e :: es) t) (hdb : (x == ("__debug__" : Str)) = false := by decide) (he : starEach (e :: es) X.env = (false, eval e X.env) :: starEach es X.env := by rfl) (hpl : (backTo pos (starEach es X.env)).any (·.1) = false := by rfl) :
    PE X (.Call (.Name x p) (e :: es) [] pos) (tCall sp dvs E t) := by
  intro pins s σ H Q I h
  refine wpAny_Call_Name_kw (ld_glob I hg hm ?_ hdb)
  refine PySem.W.callWith_K (h₀ := X.base) I.ok.mod.kin hk (thn (ha pos pins s σ H _ I h) fun us s1 ⟨vs, H1, I1, r, q⟩ => ⟨I1.kIn, ?_⟩) he hpl
  exact run_fn F hr hb hd hx I1 r q
theorem pe_call0 (F : FnOk X.prog X.w X.K X.mg X.base CX k f fd ps sp) (hr : Room k X.A) (hg : Gl X x) (hm : X.mg x = some (.ref f)) (hk : PySem.W.keepIn X.K (.ref f) = true) (hb : Binds X.K fd ps ds) (hd : Vals dvs ds) (hx : Passes CX X E)
    (hdb : (x == ("__debug__" : Str)) = false := by decide) : PE X (.Call (.Name x p) [] [] pos) (tCall sp dvs E tNil) := by
  intro pins s σ H Q I h
  refine wpAny_Call_Name_kw (ld_glob I hg hm ?_ hdb)
  exact PySem.W.callWith_K0 I.kIn hk (run_fn (us := []) F hr hb hd hx I .nil h)

theorem pe_meth {pl : Sem Bool} (he : PE X o ta) (c : Cls X.K C) (hm : Meth X.K C m f) (F : FnOk X.prog X.w X.K X.mg X.base CX k f fd ps sp) (hr : Room k X.A) (hb : Binds X.K fd ps ds) (hd : Vals dvs ds) (hx : Passes CX X E) (ha : PA X (e :: es) t)
    (hst : starEach (e :: es) X.env = (false, eval e X.env) :: starEach es X.env := by rfl) (hpl : (backTo pos (starEach es X.env)).any (·.1) = false := by rfl)
    (ht : eval (.Call (.Attribute o m apos) (e :: es) [] pos) X.env = (do
      let ov ← eval o X.env
      standAt apos.atName
      let (f, first) ← holding [ov] (getMethod ov m pl)
      callWith pos f first (backTo pos (starEach (e :: es) X.env)) (backToKw pos (keywordEach [] X.env))) := by rfl) :
    PE X (.Call (.Attribute o m apos) (e :: es) [] pos) (tMeth C m sp dvs E ta t) := by
  intro pins s σ H Q I h
  refine PySem.W.methodCall_KW (pl := pl) (thn (he pins s σ H _ I h) fun u s1 ⟨x, H1, I1, rx, a, dx, fs, ex, ea, l, q⟩ => ?_) ht
  subst ex
  obtain rfl : u = Value.ref a := rx
  refine getmeth_ok I1 ea c hm l ?_
  refine PySem.W.callWith_K (first := [.ref a]) (h₀ := X.base) I.ok.mod.kin hm.kp (thn (ha pos pins s1 σ H1 _ I1 q) fun us s2 ⟨vs, H2, I2, r, q2⟩ => ⟨I2.kIn, ?_⟩) hst hpl
  exact run_fn (us := .ref a :: us) (vs := .ref a :: vs) F hr hb hd hx I2 (.cons rfl r) q2
theorem pe_meth0 {pl : Sem Bool} (he : PE X o ta) (c : Cls X.K C) (hm : Meth X.K C m f) (F : FnOk X.prog X.w X.K X.mg X.base CX k f fd ps sp) (hr : Room k X.A) (hb : Binds X.K fd ps ds) (hd : Vals dvs ds) (hx : Passes CX X E)
    (ht : eval (.Call (.Attribute o m apos) [] [] pos) X.env = (do
      let ov ← eval o X.env
      standAt apos.atName
      let (f, first) ← holding [ov] (getMethod ov m pl)
      callWith pos f first (backTo pos (starEach [] X.env)) (backToKw pos (keywordEach [] X.env))) := by rfl) :
    PE X (.Call (.Attribute o m apos) [] [] pos) (tMeth C m sp dvs E ta tNil) := by
  intro pins s σ H Q I h
  refine PySem.W.methodCall_KW (pl := pl) (thn (he pins s σ H _ I h) fun u s1 ⟨x, H1, I1, rx, a, dx, fs, ex, ea, l, q⟩ => ?_) ht
  subst ex
  obtain rfl : u = Value.ref a := rx
  refine getmeth_ok I1 ea c hm l ?_
  exact PySem.W.callWith_K0 (first := [.ref a]) I1.kIn hm.kp (run_fn (us := [.ref a]) (vs := [.ref a]) F hr hb hd hx I1 (.cons rfl .nil) q)

structure Mk (K : PySem.W.Frag) (C f : Addr) : Prop where
  makes : PySem.W.makesIn K C = true
  init : PySem.W.findIn K (.ref C) "__init__" = some (some (.ref f))
  fn : PySem.W.isFn K (.ref f) = true
  kp : PySem.W.keepIn K (.ref C) = true

theorem run_make {pins : List (Addr × Obj)} {σ : St} {H : Hp} {s : Shared} {Q : VK} {us : List Value} {vs : List V} (M : Mk X.K C f) (F : FnOk X.prog X.w X.K X.mg X.base CX k f fd ps sp) (hr : Room (k + 1) X.A) (hb : Binds X.K fd ps ds) (hd : Vals dvs ds)
    (hx : Passes CX X E) (I : Inv X pins σ H s) (r : Vals vs us)
    (h : ∀ x dx, H x = none → H dx = none → dx ≠ x → sp (.ref x :: (vs ++ dvs)) (upd (upd H dx (.own x)) x (.ins C dx [])) (fun v H2 => v = .non ∧ Q (.ref x) H2) E) :
    wpAny (model X.prog X.w) X.A (call (.ref C) us) (EP X pins σ Q) X.xe s := by
  have hq := h (s.heap.objs.size + 1) s.heap.objs.size (I.hok.fresh (Nat.le_succ _)) (I.hok.fresh (Nat.le_refl _)) (Nat.ne_of_lt (Nat.lt_succ_self _))
  have I2 := Inv.made (C := C) I
  have r2 : Vals (V.ref (s.heap.objs.size + 1) :: (vs ++ dvs)) (Value.ref (s.heap.objs.size + 1) :: (us ++ ds)) := .cons rfl (r.append hd)
  have hl : (Value.ref (s.heap.objs.size + 1) :: us ++ ds).length = ps.length := by
    have e := r2.length
    rw [F.len _ _ _ _ hq] at e
    exact e.symm
  refine wpAny_call (make_map (f := f) I.kIn M.makes M.init (beq_iff_eq.mp M.fn) (codeAny_mono (F.run _ X.stack _ _ ⟨Value.ref (s.heap.objs.size + 1) :: us, []⟩ (Value.ref (s.heap.objs.size + 1) :: (us ++ ds)) _ _ E (hr.make C us [])
    (I2.env0.make C us []) (hb _ (Value.ref (s.heap.objs.size + 1) :: us) I2.kIn hl) r2 hq) fun r s' hq' => ?_))
  cases r with
  | error e => exact hx pins σ _ _ e s' I2 hq'
  | ok fl =>
    cases fl with
    | ret u =>
      obtain ⟨v, H', I3, rv, ev, q3⟩ := I2.after hq'
      subst ev
      exact ⟨rv, ⟨V.ref (s.heap.objs.size + 1), H', I3, rfl, q3⟩⟩
    | next => exact False.elim hq'
    | brk => exact False.elim hq'
    | cont => exact False.elim hq'
theorem pe_make (M : Mk X.K C f) (F : FnOk X.prog X.w X.K X.mg X.base CX k f fd ps sp) (hr : Room (k + 1) X.A) (hg : Gl X x) (hm : X.mg x = some (.ref C)) (hb : Binds X.K fd ps ds) (hd : Vals dvs ds) (hx : Passes CX X E)
    (ha : PA X (e :: es) t) (hdb : (x == ("__debug__" : Str)) = false := by decide) (he : starEach (e :: es) X.env = (false, eval e X.env) :: starEach es X.env := by rfl) (hpl : (backTo pos (starEach es X.env)).any (·.1) = false := by rfl) :
    PE X (.Call (.Name x p) (e :: es) [] pos) (tMake C sp dvs E t) := by
  intro pins s σ H Q I h
  refine wpAny_Call_Name_kw (ld_glob I hg hm ?_ hdb)
  refine PySem.W.callWith_K (h₀ := X.base) I.ok.mod.kin M.kp (thn (ha pos pins s σ H _ I h) fun us s1 ⟨vs, H1, I1, r, q⟩ => ⟨I1.kIn, ?_⟩) he hpl
  exact run_make M F hr hb hd hx I1 r q
theorem pe_make0 (M : Mk X.K C f) (F : FnOk X.prog X.w X.K X.mg X.base CX k f fd ps sp) (hr : Room (k + 1) X.A) (hg : Gl X x) (hm : X.mg x = some (.ref C)) (hb : Binds X.K fd ps ds) (hd : Vals dvs ds) (hx : Passes CX X E)
    (hdb : (x == ("__debug__" : Str)) = false := by decide) : PE X (.Call (.Name x p) [] [] pos) (tMake C sp dvs E tNil) := by
  intro pins s σ H Q I h
  refine wpAny_Call_Name_kw (ld_glob I hg hm ?_ hdb)
  exact PySem.W.callWith_K0 I.kIn M.kp (run_make (us := []) M F hr hb hd hx I .nil h)
end

def PK (X : Cx) (kws : List Keyword) (t : TA) : Prop :=
  ∀ (pos : Pos) (pins : List (Addr × Obj)) (s : Shared) (σ : St) (H : Hp) (Q : List V → Hp → Prop), Inv X pins σ H s → t σ H Q → wpAny (model X.prog X.w) X.A (evalAll ((backToKw pos (keywordEach kws X.env)).map (·.2))) (AP X pins σ Q) X.xe s
section
variable {X : Cx} {CX : CXT} {k : Nat} {f C : Addr} {fd : FuncData} {ps ks : List Str} {sp : Sp} {E : XK} {x m : Str} {p pos apos kpos : Pos} {e o : Expr} {es : List Expr} {kws : List Keyword} {te ta : TE} {t tk : TA} {nm : Option Str}
theorem pk_nil : PK X [] tNil := fun _ _ _ _ H Q I h => wpAny_evalAll_nil ⟨[], H, I, .nil, h⟩
theorem pk_cons (ha : PE X e te) (hr : PK X kws t) : PK X (⟨nm, e, kpos⟩ :: kws) (tCons te t) := by
  intro pos pins s σ H Q I h
  show wpAny _ _ (evalAll ((do let v ← eval e X.env; standAt pos; pure v) :: (backToKw pos (keywordEach kws X.env)).map (·.2))) _ _ s
  refine wpAny_evalAll_cons (wpAny_bind (thn (ha pins s σ H _ I h) fun u s1 ⟨x, H1, I1, r1, q1⟩ => wpAny_bind (wpAny_standAt (wpAny_pure ?_))))
  exact thn (hr pos pins s1 σ H1 _ I1 q1) fun us s2 ⟨xs, H2, I2, r2, q2⟩ => ⟨x :: xs, H2, I2, .cons r1 r2, q2⟩

structure KBinds (K : PySem.W.Frag) (fd : FuncData) (ps ks : List Str) (g : List Value → List Value → List Value) (gV : List V → List V → List V) : Prop where
  to : ∀ (s : Shared) (us ws : List Value), K.In s.heap → (g us ws).length = ps.length → BindsTo s fd ⟨us, ks.zip ws⟩ (ps.zip (g us ws))
  rel : ∀ {vs : List V} {us : List Value} {zs : List V} {ws : List Value}, Vals vs us → Vals zs ws → Vals (gV vs zs) (g us ws)
def tCallK (sp : Sp) (gV : List V → List V → List V) (E : XK) (t tk : TA) : TE := fun σ H Q => t σ H fun vs H1 => tk σ H1 fun zs H2 => sp (gV vs zs) H2 Q E
variable {g : List Value → List Value → List Value} {gV : List V → List V → List V}
theorem run_fnk {pins : List (Addr × Obj)} {σ : St} {H : Hp} {s : Shared} {Q : VK} {us ws : List Value} {vs zs : List V} (F : FnOk X.prog X.w X.K X.mg X.base CX k f fd ps sp) (hr : Room k X.A) (hb : KBinds X.K fd ps ks g gV) (hx : Passes CX X E)
    (I : Inv X pins σ H s) (r : Vals vs us) (rz : Vals zs ws) (h : sp (gV vs zs) H Q E) : wpAny (model X.prog X.w) X.A (call (.ref f) us (ks.zip ws)) (EP X pins σ Q) X.xe s := by
  have r2 := hb.rel r rz
  have hl : (g us ws).length = ps.length := by rw [← r2.length]; exact F.len _ _ _ _ h
  refine wpAny_call (codeAny_mono (F.run X.A X.stack s H ⟨us, ks.zip ws⟩ (g us ws) (gV vs zs) Q E hr I.env0 (hb.to s us ws I.kIn hl) r2 h) fun r s' hq => ?_)
  cases r with
  | error e => exact hx pins σ H s e s' I hq
  | ok fl =>
    cases fl with
    | ret u => exact I.after hq
    | next => exact False.elim hq
    | brk => exact False.elim hq
    | cont => exact False.elim hq
theorem pe_callK (F : FnOk X.prog X.w X.K X.mg X.base CX k f fd ps sp) (hr : Room k X.A) (hg : Gl X x) (hm : X.mg x = some (.ref f)) (hk : PySem.W.keepIn X.K (.ref f) = true) (hb : KBinds X.K fd ps ks g gV) (hx : Passes CX X E)
    (ha : PA X (e :: es) t) (hkw : PK X kws tk) (hall : (backToKw pos (keywordEach kws X.env)).all (·.1.isSome) = true := by rfl) (hks : (backToKw pos (keywordEach kws X.env)).filterMap (·.1) = ks := by rfl)
    (hdb : (x == ("__debug__" : Str)) = false := by decide) (he : starEach (e :: es) X.env = (false, eval e X.env) :: starEach es X.env := by rfl)
    (hpl : ((backTo pos (starEach (e :: es) X.env)).any (·.1) || (backToKw pos (keywordEach kws X.env)).any (·.1.isNone)) = false := by rfl) :
    PE X (.Call (.Name x p) (e :: es) kws pos) (tCallK sp gV E t tk) := by
  intro pins s σ H Q I h
  refine wpAny_Call_Name_kw (ld_glob I hg hm ?_ hdb)
  refine PySem.W.callWith_KW (h₀ := X.base) I.ok.mod.kin hk hall (thn (ha pos pins s σ H _ I h) fun us s1 ⟨vs, H1, I1, r, q⟩ => ?_) hpl he
  refine thn (hkw pos pins s1 σ H1 _ I1 q) fun ws s2 ⟨zs, H2, I2, rz, q2⟩ => ⟨I2.kIn, ?_⟩
  rw [hks]
  exact run_fnk F hr hb hx I2 r rz q2
end

structure FnScope (N P : List Str) (sc : Scope) : Prop where
  kind : sc.kind = .function
  co : sc.isCoroutine = false
  gen : sc.isGenerator = false
  nd : N.Nodup
  pre : N.take P.length = P
  par : ∀ x ∈ P, sc.names.lookup x = some .local ∨ sc.names.lookup x = some .cell
  nofree : ∀ y ∈ sc.names, y.2 ≠ .free

theorem bindL_out {kindOf : Str → Option NameKind} {x : Str} : ∀ {binds : List (Str × Value)} {m : Str → Option Value}, (∀ v, (x, v) ∉ binds) → bindL kindOf binds m x = m x
  | [], _, _ => rfl
  | (n, v) :: r, m, h => by
    unfold bindL
    rw [bindL_out fun w hw => h w (List.mem_cons_of_mem _ hw)]
    split
    · have : x ≠ n := by rintro rfl; exact h v List.mem_cons_self
      simp [this]
    · rfl
theorem bindC_out {kindOf : Str → Option NameKind} {x : Str} : ∀ {binds : List (Str × Value)} {m : Str → Option Value}, (∀ v, (x, v) ∉ binds) → bindC kindOf binds m x = m x
  | [], _, _ => rfl
  | (n, v) :: r, m, h => by
    unfold bindC
    rw [bindC_out fun w hw => h w (List.mem_cons_of_mem _ hw)]
    split
    · rfl
    · have : x ≠ n := by rintro rfl; exact h v List.mem_cons_self
      simp [this]
theorem bindL_get {kindOf : Str → Option NameKind} {x : Str} {v : Value} : ∀ {P : List Str} {vs : List Value} {i : Nat} {m : Str → Option Value}, P.Nodup → P[i]? = some x → vs[i]? = some v → kindOf x = some .local →
    bindL kindOf (P.zip vs) m x = some v
  | [], _, _, _, _, h, _, _ => by simp at h
  | _ :: _, [], _, _, _, _, h, _ => by simp at h
  | p :: P, w :: vs, 0, m, nd, h1, h2, hk => by
    simp at h1 h2; subst h1; subst h2
    show bindL kindOf ((p, w) :: P.zip vs) m p = _
    unfold bindL
    rw [bindL_out fun v hv => (List.nodup_cons.mp nd).1 (List.of_mem_zip hv).1, if_pos hk]
    simp
  | p :: P, w :: vs, i + 1, m, nd, h1, h2, hk => by
    show bindL kindOf ((p, w) :: P.zip vs) m x = _
    unfold bindL
    exact bindL_get (i := i) (List.nodup_cons.mp nd).2 (by simpa using h1) (by simpa using h2) hk
theorem bindC_get {kindOf : Str → Option NameKind} {x : Str} {v : Value} : ∀ {P : List Str} {vs : List Value} {i : Nat} {m : Str → Option Value}, P.Nodup → P[i]? = some x → vs[i]? = some v → kindOf x ≠ some .local →
    bindC kindOf (P.zip vs) m x = some v
  | [], _, _, _, _, h, _, _ => by simp at h
  | _ :: _, [], _, _, _, _, h, _ => by simp at h
  | p :: P, w :: vs, 0, m, nd, h1, h2, hk => by
    simp at h1 h2; subst h1; subst h2
    show bindC kindOf ((p, w) :: P.zip vs) m p = _
    unfold bindC
    rw [bindC_out fun v hv => (List.nodup_cons.mp nd).1 (List.of_mem_zip hv).1, if_neg hk]
    simp
  | p :: P, w :: vs, i + 1, m, nd, h1, h2, hk => by
    show bindC kindOf ((p, w) :: P.zip vs) m x = _
    unfold bindC
    exact bindC_get (i := i) (List.nodup_cons.mp nd).2 (by simpa using h1) (by simpa using h2) hk

def start (N : List Str) (vs : List V) : St := vs.map some ++ List.replicate (N.length - vs.length) none

def cxOf (CX : CXT) (P : Program) (w : World) (K : PySem.W.Frag) (mg : Str → Option Value) (base : Heap) (N : List Str) (qual : Str) (scope : Scope) (f : Addr) (cd : Value) (A : Around) (outer : List Env) (s : Shared) (H : Hp) (E : XK) : Cx where
  prog := P
  w := w
  K := K
  mg := mg
  base := base
  A := A.deeper (envOfC qual scope s.heap.objs.size f cd)
  N := N
  s₀ := s
  H₀ := H
  env := envOfC qual scope s.heap.objs.size f cd
  outer := outer
  stack := envOfC qual scope s.heap.objs.size f cd :: outer
  ex := []
  calm := true
  fn := fun _ => true
  pn := []
  xe := fun e s' => wpAny (model P w) (A.deeper (envOfC qual scope s.heap.objs.size f cd)) (leaving (envOfC qual scope s.heap.objs.size f cd) e) (fun _ s'' => CX outer H s E e s'') (fun e' s'' => CX outer H s E e' s'') s'

theorem cell_has {sc : Scope} {n : Nat} {x : Str} (h : sc.names.lookup x = some .cell) : ∃ c, (cellsFrom n sc.names []).lookup x = some c := by
  have q := PySem.W.cellsFrom_some sc.names n [] (.inl h)
  exact Option.isSome_iff_exists.mp q

theorem inv_start {CX : CXT} {P : Program} {w : World} {K : PySem.W.Frag} {mg : Str → Option Value} {base : Heap} {N ps : List Str} {qual : Str} {scope : Scope} {f : Addr} {cd : Value} {A : Around} {outer : List Env} {s s1 : Shared} {H : Hp} {E : XK} {us : List Value} {vs : List V}
    (S : FnScope N ps scope) (hd : A.handled = none) (e0 : Env0 P w K mg base A outer s H) (hl : vs.length = ps.length) (r : Vals vs us)
    (x : InCallC s s.heap.objs.size (bindL (envOfC qual scope s.heap.objs.size f cd).kindOf (ps.zip us) fun _ => none) (cellsFrom (s.heap.objs.size + 1) scope.names []) (bindC (envOfC qual scope s.heap.objs.size f cd).kindOf (ps.zip us) fun _ => none) s1) :
    Inv (cxOf CX P w K mg base N qual scope f cd A outer s H E) [] (start N vs) H s1 := by
  have hpl : ps.length ≤ N.length := by have := congrArg List.length S.pre; rw [List.length_take] at this; omega
  obtain ⟨h1, tk, rfl, hk⟩ := x.done
  have noA : ∀ b : Addr, b ∉ (cxOf CX P w K mg base N qual scope f cd A outer s H E).ex := fun b z => absurd (show b ∈ ([] : List Addr) from z) (by simp)
  refine ⟨⟨e0.mod, S.kind, rfl, rfl, Nat.le_refl _, fun y z c h1 h2 => ?_, fun y hy => ?_, fun y c _ h => ?_, fun _ => hd, Around.frames_deeper e0.frames, .inr ⟨rfl, rfl⟩, fun b z => absurd z (noA b), e0.bs, e0.bsz, fun b _ _ => noA b, fun b z => absurd z (noA b), e0.funs, e0.frf⟩,
    rfl, e0.bare, Un.kept hk, ⟨_, x.toInCall.ns, fun i y v h1 h2 h3 => ?_⟩, fun y c h => ⟨_, x.cell y c h⟩, e0.hok.fresh (Nat.le_refl _), fun y c h => ?_, fun p hp => absurd (show p ∈ ([] : List (Addr × Obj)) from hp) (by simp), e0.hok.kept hk, ?_⟩
  · exact name_of_addr x.apart (PySem.mem_of_lookup h1) (PySem.mem_of_lookup h2)
  · have hy : scope.names.lookup y = some .cell ∨ scope.names.lookup y = some .free := hy
    rcases hy with hy | hy
    · exact cell_has hy
    · exact absurd rfl (S.nofree _ (PySem.mem_of_lookup hy))
  · exact Nat.le_of_lt (x.above y c (PySem.mem_of_lookup h))
  · have hi : i < vs.length := by
      unfold start at h2
      by_cases hi : i < vs.length
      · exact hi
      · rw [List.getElem?_append_right (by simpa using hi)] at h2
        rw [List.getElem?_replicate] at h2
        split at h2 <;> cases h2
    have ha : vs[i]? = some v := by
      unfold start at h2
      rw [List.getElem?_append_left (by simpa using hi), List.getElem?_map] at h2
      cases e : vs[i]? with
      | none => rw [e] at h2; cases h2
      | some a => rw [e] at h2; cases h2; rfl
    obtain ⟨u, hu, rv⟩ := r.get ha
    have hp : ps[i]? = some y := by
      rw [← S.pre, List.getElem?_take_of_lt (by omega)]; exact h1
    have ndP : ps.Nodup := by rw [← S.pre]; exact S.nd.sublist (List.take_sublist _ _)
    refine ⟨u, rv, ?_⟩
    rcases S.par y (List.mem_of_getElem? hp) with k | k
    · exact .inl ⟨k, bindL_get ndP hp hu k⟩
    · obtain ⟨c, e⟩ := cell_has (n := s.heap.objs.size + 1) k
      refine .inr ⟨.inl k, c, e, ?_⟩
      have q := x.cell y c e
      rw [bindC_get ndP hp hu (by show scope.names.lookup y ≠ _; rw [k]; decide)] at q
      exact q
  · exact e0.hok.fresh (Nat.le_of_lt (x.above y c (PySem.mem_of_lookup h)))
  · unfold start
    show _ = N.length
    rw [List.length_append, List.length_map, List.length_replicate]
    omega

theorem fn_of {CX : CXT} {P : Program} {w : World} {K : PySem.W.Frag} {mg : Str → Option Value} {base : Heap} {k : Nat} {f : Addr} {name qual : Str} {params : Arguments} {body : List Stmt} {scope : Scope} {dV kV doc pm cdv ct oc : Value} {an od : Option Addr}
    {osl : Array (Option Value)} {N ps : List Str} {sp : Sp} (lk : K.lookup f = some ⟨oc, od, .func (PySem.W.fnOf name qual params body scope dV kV doc pm an cdv ct), osl⟩) (hcd : PySem.W.codeIn K cdv qual = true) (S : FnScope N ps scope)
    (len : ∀ vs H Q E, sp vs H Q E → vs.length = ps.length)
    (hbody : ∀ (A : Around) (outer : List Env) (s : Shared) (H : Hp) (vs : List V) (Q : VK) (E : XK), Room k (A.deeper (envOfC qual scope s.heap.objs.size f cdv)) → sp vs H Q E →
      ∃ t, PSs (cxOf CX P w K mg base N qual scope f cdv A outer s H E) body t ∧ t { nx := fun _ H' => Q .non H', rt := Q } (start N vs) H) :
    FnOk P w K mg base CX (k + 1) f (PySem.W.fnOf name qual params body scope dV kV doc pm an cdv ct) ps sp := by
  refine ⟨len, fun A outer s H args us vs Q E hr e0 hb r hsp => ?_⟩
  have hl := len _ _ _ _ hsp
  have KX : K.In s.heap := e0.mod.kin.keeps fun b o e => (e0.bs b o e).1
  have lim : s.heap.NoLimit := e0.mod.nolimit.keeps fun b o e => (e0.bs b o e).1
  have hkind : ∀ y ∈ ps.zip us, scope.names.lookup y.1 = some .local ∨ (scope.names.lookup y.1 = some .cell ∧ ((cellsFrom (s.heap.objs.size + 1) scope.names []).lookup y.1).isSome = true) := fun ⟨n, v⟩ hy => by
    rcases S.par n (List.of_mem_zip hy).1 with q | q
    · exact .inl q
    · exact .inr ⟨q, PySem.W.cellsFrom_some _ _ _ (.inl q)⟩
  refine codeAny_call_function hr.depth (KX _ _ lk) rfl S.co S.gen rfl (PySem.W.codeRec_of KX hcd) (hb _ _ _ _ ?_)
  refine wpAny_newFunctionEnv_cells S.kind hkind fun env he s1 x => ?_
  subst he
  refine ⟨lim.keeps x.toInCall.keep, codeAny_func ?_⟩
  obtain ⟨t, ht, hq⟩ := hbody A outer s H vs Q E (hr.deeper _) hsp
  have I : Inv (cxOf CX P w K mg base N qual scope f cdv A outer s H E) [] (start N vs) H s1 := inv_start S hr.hd e0 hl r x
  refine wpAny_mono (ht [] s1 (start N vs) H _ I hq) (fun fl s' hs => ?_) fun e s' hs => hs
  have fin : ∀ {σ' : St} {H' : Hp} {v : V} {u : Value}, Inv (cxOf CX P w K mg base N qual scope f cdv A outer s H E) [] σ' H' s' → RelV v u → Q v H' → CE outer P w H s Q u s' :=
    fun {σ' H' v u} J rv q => ⟨v, H', J.os, J.bare, J.base, J.hok, rv, q⟩
  cases fl with
  | ret u =>
    obtain ⟨v, σ', H', J, rv, q⟩ := hs
    exact fin J rv q
  | next =>
    obtain ⟨σ', H', J, q⟩ := hs
    exact fin (v := V.non) (u := Value.none) J rfl q
  | brk =>
    obtain ⟨_, _, _, q⟩ := hs
    exact False.elim q
  | cont =>
    obtain ⟨_, _, _, q⟩ := hs
    exact False.elim q
end L2

namespace L2
open PySem PySem.Spec PyProof.Rows
section
variable {X : Cx} {x : Str} {p pos : Pos} {e : Expr} {es : List Expr} {t : TA} {id T : String} {r : List V → Hp → VK → Prop}

def tCB (r : List V → Hp → VK → Prop) (t : TA) : TE := fun σ H Q => t σ H fun vs H1 => r vs H1 Q
theorem pe_callB (hc : CallR X (.builtin id) r) (hg : Gl X x) (hm : X.mg x = none) (hv : bootBuiltins x = some (.builtin id)) (ha : PA X (e :: es) t) (hn : x ≠ "__name__" := by decide) (hdb : (x == ("__debug__" : Str)) = false := by decide)
    (he : starEach (e :: es) X.env = (false, eval e X.env) :: starEach es X.env := by rfl) (hpl : (backTo pos (starEach es X.env)).any (·.1) = false := by rfl) : PE X (.Call (.Name x p) (e :: es) [] pos) (tCB r t) := by
  intro pins s σ H Q I h
  refine wpAny_Call_Name_kw (ld_blt I hg hm hv ?_ hn hdb)
  exact PyProof.Rows.callWith_builtin1 (thn (ha pos pins s σ H _ I h) fun us s1 ⟨vs, H1, I1, r1, q1⟩ => hc pins s1 σ H1 vs us Q I1 r1 q1) he hpl
theorem pe_callTy (hc : CallR X (.type T) r) (hg : Gl X x) (hm : X.mg x = none) (hv : bootBuiltins x = some (.type T)) (ha : PA X (e :: es) t) (hn : x ≠ "__name__" := by decide) (hdb : (x == ("__debug__" : Str)) = false := by decide)
    (he : starEach (e :: es) X.env = (false, eval e X.env) :: starEach es X.env := by rfl) (hpl : (backTo pos (starEach es X.env)).any (·.1) = false := by rfl) : PE X (.Call (.Name x p) (e :: es) [] pos) (tCB r t) := by
  intro pins s σ H Q I h
  refine wpAny_Call_Name_kw (ld_blt I hg hm hv ?_ hn hdb)
  exact PyProof.Rows.callWith_type1 (thn (ha pos pins s σ H _ I h) fun us s1 ⟨vs, H1, I1, r1, q1⟩ => hc pins s1 σ H1 vs us Q I1 r1 q1) he hpl
theorem pe_callTy0 (hc : CallR X (.type T) r) (hg : Gl X x) (hm : X.mg x = none) (hv : bootBuiltins x = some (.type T)) (hn : x ≠ "__name__" := by decide) (hdb : (x == ("__debug__" : Str)) = false := by decide) :
    PE X (.Call (.Name x p) [] [] pos) (tCB r tNil) := by
  intro pins s σ H Q I h
  refine wpAny_Call_Name_kw (ld_blt I hg hm hv ?_ hn hdb)
  exact PyProof.Rows.callWith_type0 (hc pins s σ H [] [] Q I .nil h)
end
end L2

namespace HT
open PySem PyProof.Rows

def lexLt : List Int → List Int → Bool
  | [], [] => false
  | [], _ :: _ => true
  | _ :: _, [] => false
  | x :: xs, y :: ys => if x = y then lexLt xs ys else decide (x < y)
theorem lexLt_cons (x y : Int) (xs ys : List Int) : lexLt (x :: xs) (y :: ys) = if x = y then lexLt xs ys else decide (x < y) := rfl
theorem lexLt_nil_nil : lexLt [] [] = false := rfl
theorem lexLt_nil_cons (y : Int) (ys : List Int) : lexLt [] (y :: ys) = true := rfl
theorem lexLt_cons_nil (x : Int) (xs : List Int) : lexLt (x :: xs) [] = false := rfl

theorem eqAt_int (A : Around) (s : Shared) (a : Int) (t : Tok) (c : Int) (u : Tok) : ∃ e, SeqAt.EqAt A s (.int a t) (.int c u) e ∧ (e = true ↔ a = c) :=
  ⟨(a == c), SeqAt.EqAt.int_int a t c u, by simp⟩
theorem rcLt_int (A : Around) (s : Shared) (a : Int) (t : Tok) (c : Int) (u : Tok) (prog : Program) (w : World) (E : Value → Shared → Prop) (Q : Value → Shared → Prop) (h : Q (.bool (decide (a < c))) s) :
    wpAny (model prog w) A (richCompare .Lt (.int a t) (.int c u)) Q E s :=
  (PyProof.Rows.lt_int h : wpAny (model prog w) A (compareOp .Lt (.int a t) (.int c u)) Q E s)

section
open PySem.SeqAt
open PySem.AutoSeq1 (wpAny_loadPart')
open PySem.MeetsSeq PySem.MeetsSeq2 PySem.MeetsSeq3

theorem tuple_lt_ints (l b : Addr) (items items2 : Array Value) (n n2 : Nat) (dd dd2 : Option Addr) (sl sl2 : Array (Option Value)) (ns ms : List Int) (hi : IntsAre items.toList ns) (hj : IntsAre items2.toList ms) :
    Meets (Builtin.«tuple.__lt__» ⟨[.ref l, .ref b], []⟩)
      (fun _ R s => s.heap.get? l = some { cls := .type "tuple", dict := dd, data := .seq items n, slots := sl } ∧ s.heap.get? b = some { cls := .type "tuple", dict := dd2, data := .seq items2 n2, slots := sl2 } ∧
        R (.ok (.ret (.bool (lexLt ns ms)))) s) :=
  .of_wp fun prog w A R s h => by
    obtain ⟨hp, g, d, tk, os⟩ := s; obtain ⟨hl, hb, h⟩ := h
    have f2 := AutoSeq1.sub_tuple_tuple
    have z1 : items.size = ns.length := by rw [← hi.length]; simp
    have z2 : items2.size = ms.length := by rw [← hj.length]; simp
    wp_walk using wpAny_loadPart' hl, wpAny_loadPart' hb, wpAny_forIn_list _ (fun rest b s' => b.1 = none ∧ s' = ⟨hp, g, d, tk, os⟩ ∧ ∃ (vs ws : List Value) (ns' ms' : List Int), rest = vs.zip ws ∧
      IntsAre vs ns' ∧ IntsAre ws ms' ∧ ns'.length + items2.size = ms'.length + items.size ∧ R (.ok (.ret (.bool (lexLt ns' ms')))) ⟨hp, g, d, tk, os⟩) _
    case turn =>
      rintro ⟨y, x⟩ rest b s' ⟨hb', rfl, vs, ws, ns', ms', hz, hvi, hwi, hlen, hR⟩
      cases hvi with
      | nil => rw [List.zip_nil_left] at hz; cases hz
      | cons a t hvi' =>
        cases hwi with
        | nil => rw [List.zip_nil_right] at hz; cases hz
        | cons c u hwi' =>
          rw [List.zip_cons_cons] at hz
          injection hz with hyx hrest
          injection hyx with hy hx
          subst hy hx
          rw [lexLt_cons] at hR
          simp only [List.length_cons] at hlen
          obtain ⟨e, he, hiff⟩ := eqAt_int A.in1 ⟨hp, g, d, tk, os⟩ a t c u
          refine wpAny_bind (he prog w _ _ ?_)
          cases e with
          | true =>
            rw [if_pos (hiff.mp rfl)] at hR
            wp_walk
            exact ⟨rfl, rfl, _, _, _, _, hrest, hvi', hwi', by omega, hR⟩
          | false =>
            rw [if_neg (fun q => absurd (hiff.mpr q) Bool.false_ne_true)] at hR
            have hri := rcLt_int A.in1 ⟨hp, g, d, tk, os⟩ a t c u prog w
            wp_walk using hri
            exact ⟨_, rfl, by simpa using hR⟩
    case fin =>
      rintro ⟨b1, b2⟩ s' ⟨hb', rfl, vs, ws, ns', ms', hz, hvi, hwi, hlen, hR⟩
      simp only at hb'
      subst hb'
      have hv : lexLt ns' ms' = decide (items.size < items2.size) := by
        cases hvi with
        | nil =>
          cases hwi with
          | nil =>
            simp only [List.length_nil] at hlen
            rw [lexLt_nil_nil]
            exact (decide_eq_false (by omega)).symm
          | cons c u hw =>
            simp only [List.length_nil, List.length_cons] at hlen
            rw [lexLt_nil_cons]
            exact (decide_eq_true (by omega)).symm
        | cons a t hv =>
          cases hwi with
          | nil =>
            simp only [List.length_nil, List.length_cons] at hlen
            rw [lexLt_cons_nil]
            exact (decide_eq_false (by omega)).symm
          | cons c u hw =>
            rw [List.zip_cons_cons] at hz
            cases hz
      rw [hv] at hR
      wp_walk
      exact ⟨_, rfl, by simpa [Builtin.Tuple.tupleCompareSizes] using hR⟩
    case h =>
      exact ⟨rfl, rfl, items.toList, items2.toList, ns, ms, rfl, hi, hj, by omega, h⟩
end

section
variable {prog : Program} {w : World} {A : Around} {E : Value → Shared → Prop} {s : Shared}

theorem lt_tupInts {l b : Addr} {items items2 : Array Value} {ns ms : List Int} {Q : Value → Shared → Prop} (hl : IsTup s.heap l items) (hb : IsTup s.heap b items2) (hi : IntsAre items.toList ns) (hj : IntsAre items2.toList ms)
    (hu : A.units < cLine) (h : Q (.bool (lexLt ns ms)) s) : wpAny (model prog w) A (compareOp .Lt (.ref l) (.ref b)) Q E s := by
  obtain ⟨⟨cls, dd, data, sl⟩, ho, hc, n, hd⟩ := id hl
  obtain ⟨⟨cls2, dd2, data2, sl2⟩, ho2, hc2, n2, hd2⟩ := id hb
  simp only at hc hd hc2 hd2
  subst hc hd hc2 hd2
  exact richCompare_meets_room (op := .Lt) ⟨_, ho, rfl⟩ ⟨_, ho2, rfl⟩ PySem.F.slot_tuple_lt PySem.F.entry_tuple_lt (PySem.F.args_tuple_lt_2 _ _) (tuple_lt_ints l b items items2 n n2 dd dd2 sl sl2 ns ms hi hj)
    ⟨ho, ho2, show Value.bool (lexLt ns ms) ≠ Value.notImplemented ∧ Q (.bool (lexLt ns ms)) s from ⟨(fun x => nomatch x), h⟩⟩ hu

theorem cat_tup {t b : Addr} {vs ws : List Value} {Q : Value → Shared → Prop} (ht : IsTup s.heap t vs.toArray) (hb : IsTup s.heap b ws.toArray) (hv : vs ≠ [])
    (h1 : ws = [] → Q (.ref t) s) (h2 : ws ≠ [] → Q (.ref s.heap.objs.size) { s with heap := s.heap.push { cls := .type "tuple", data := .seq (vs ++ ws).toArray } })
    (hsz : vs.length + ws.length ≤ sizeLine) : wpAny (model prog w) A (binaryOp .Add (.ref t) (.ref b)) Q E s := by
  obtain ⟨⟨cls, dd, data, sl⟩, ho, hc, n, hd⟩ := id ht
  obtain ⟨⟨cls2, dd2, data2, sl2⟩, ho2, hc2, n2, hd2⟩ := id hb
  simp only at hc hd hc2 hd2
  subst hc hd hc2 hd2
  have e : vs.toArray ++ ws.toArray = (vs ++ ws).toArray := by simp
  by_cases hw : ws = []
  · exact concat_meets ⟨_, ho, rfl⟩ ⟨_, ho2, rfl⟩ noFill_tuple_add seq_tuple_add PySem.F.slot_tuple_add PySem.F.entry_tuple_add (PySem.F.args_tuple_add_2 _ _)
      (tuple_addW1 t b vs.toArray ws.toArray n n2 dd dd2 sl sl2 (by simpa using hv) (by simp [hw])) ⟨ho, ho2, h1 hw⟩
  · refine concat_meets ⟨_, ho, rfl⟩ ⟨_, ho2, rfl⟩ noFill_tuple_add seq_tuple_add PySem.F.slot_tuple_add PySem.F.entry_tuple_add (PySem.F.args_tuple_add_2 _ _)
      (tuple_addW2 t b vs.toArray ws.toArray n n2 dd dd2 sl sl2 (by simpa using hv) (by simpa using hw) (by rw [List.size_toArray, List.size_toArray]; exact hsz)) ⟨ho, ho2, ?_⟩
    rw [e]
    exact h2 hw

def sIx (n d : Nat) : Option Int → Nat
  | none => d
  | some v => if v < 0 then (v + (n : Int)).toNat else min v.toNat n
theorem sIx_none (n d : Nat) : sIx n d none = d := rfl
theorem sIx_nat (n d k : Nat) : sIx n d (some (k : Int)) = min k n := by
  show (if (k : Int) < 0 then ((k : Int) + (n : Int)).toNat else min (k : Int).toNat n) = min k n
  rw [if_neg (by omega), Int.toNat_natCast]
theorem sIx_le (n d : Nat) (hd : d ≤ n) (o : Option Int) : sIx n d o ≤ n := by
  cases o with
  | none => exact hd
  | some v =>
    show (if v < 0 then (v + (n : Int)).toNat else min v.toNat n) ≤ n
    by_cases hv : v < 0
    · rw [if_pos hv]; omega
    · rw [if_neg hv]; exact Nat.min_le_right _ _
theorem clip_eq (v : Int) (n d : Nat) : (if v < 0 then max (v + (n : Int)) 0 else min v (n : Int)) = ((sIx n d (some v) : Nat) : Int) := by
  show (if v < 0 then max (v + (n : Int)) 0 else min v (n : Int)) = (((if v < 0 then (v + (n : Int)).toNat else min v.toNat n) : Nat) : Int)
  by_cases hv : v < 0
  · simp only [if_pos hv]; omega
  · simp only [if_neg hv]; omega
theorem adjust_gen (lo hi : Option Int) (n : Nat) : Builtin.Slice.sliceAdjust lo hi 1 (n : Int) = (((sIx n 0 lo : Nat) : Int), ((sIx n n hi : Nat) : Int)) := by
  have h1 : ¬ ((1 : Int) < 0) := by omega
  unfold Builtin.Slice.sliceAdjust
  simp only [h1, if_false]
  refine Prod.ext ?_ ?_
  · cases lo with
    | none => rfl
    | some v => exact clip_eq v n 0
  · cases hi with
    | none => rfl
    | some v => exact clip_eq v n n
theorem places_gen (i j : Nat) : Builtin.Slice.slicePlaces (i : Int) (j : Int) 1 = j - i := by
  unfold Builtin.Slice.slicePlaces
  have h1 : (1 : Int) > 0 := by omega
  simp only [h1, if_true, Int.ediv_one]
  split <;> omega
theorem slicePart_ {v : Value} {o : Option Int} {Q : Option Int → Shared → Prop} (p : IsPart v o) (h : Q o s) : wpAny (model prog w) A (Builtin.Slice.slicePartIndex v) Q E s := by
  cases p with
  | none => exact slicePart_none h
  | int i t => exact slicePart_int h
theorem sliceApplied_gen {sl : Addr} {vl vu : Value} {lo hi : Option Int} {n : Nat} {Q : Int × Int × Nat → Shared → Prop} (hs : s.heap.IsSliceOf sl vl vu .none) (pl : IsPart vl lo) (pu : IsPart vu hi)
    (h : Q (((sIx n 0 lo : Nat) : Int), 1, sIx n n hi - sIx n 0 lo) s) : wpAny (model prog w) A (Builtin.Slice.sliceApplied (.ref sl) (pure (n : Int))) Q E s := by
  obtain ⟨os, hos, hcs, hds⟩ := id hs
  unfold Builtin.Slice.sliceApplied Builtin.Slice.sliceFields
  refine wpAny_bind (wpAny_bind (wpAny_field hos hds (x := vl) rfl (wpAny_bind (wpAny_field hos hds (x := vu) rfl (wpAny_bind (wpAny_field hos hds (x := .none) rfl (wpAny_pure ?_)))))))
  refine wpAny_bind (slicePart_none ?_)
  show wpAny _ _ (if ((1 : Int) == 0) = true then _ else _) _ _ s
  rw [if_neg (by decide)]
  refine wpAny_bind (slicePart_ pl (wpAny_bind (slicePart_ pu (wpAny_bind (wpAny_pure ?_)))))
  show wpAny _ _ (match Builtin.Slice.sliceAdjust lo hi 1 (n : Int) with | (lo, hi) => pure (lo, (1 : Int), Builtin.Slice.slicePlaces lo hi 1)) _ _ s
  rw [adjust_gen lo hi n]
  show wpAny _ _ (pure (((sIx n 0 lo : Nat) : Int), (1 : Int), Builtin.Slice.slicePlaces ((sIx n 0 lo : Nat) : Int) ((sIx n n hi : Nat) : Int) 1)) _ _ s
  rw [places_gen]
  exact wpAny_pure h
theorem pick_gen (xs : Array Value) (i k : Nat) : ((List.range k).filterMap fun (m : Nat) => xs[((i : Int) + (m : Int) * 1).toNat]?).toArray = ((xs.toList.drop i).take k).toArray := by
  have e : (fun (m : Nat) => xs[((i : Int) + (m : Int) * 1).toNat]?) = fun m => xs[i + m]? := by
    funext m
    have : ((i : Int) + (m : Int) * 1).toNat = i + m := by omega
    rw [this]
  rw [e]
  have := pick_run xs i k
  rw [List.filterMap_map] at this
  have e2 : ((fun x => xs[x]?) ∘ fun x => i + x) = fun m => xs[i + m]? := rfl
  rw [e2] at this
  rw [this]

theorem getItem_tuple_cut {t sl : Addr} {items : Array Value} {vl vu : Value} {lo hi : Option Int} {Q : Value → Shared → Prop} (ht : IsTup s.heap t items) (hs : s.heap.IsSliceOf sl vl vu .none) (pl : IsPart vl lo) (pu : IsPart vu hi)
    (hw : ¬ (sIx items.size 0 lo = 0 ∧ sIx items.size items.size hi = items.size))
    (h : Q (.ref s.heap.objs.size) { s with heap := s.heap.push { cls := .type "tuple", data := .seq ((items.toList.drop (sIx items.size 0 lo)).take (sIx items.size items.size hi - sIx items.size 0 lo)).toArray } })
    (hsz : items.size ≤ sizeLine) : wpAny (model prog w) A (getItem (.ref t) (.ref sl)) Q E s := by
  have htake : sizeOk (.seq ((items.toList.drop (sIx items.size 0 lo)).take (sIx items.size items.size hi - sIx items.size 0 lo)).toArray) := by
    show ((items.toList.drop (sIx items.size 0 lo)).take (sIx items.size items.size hi - sIx items.size 0 lo)).toArray.size ≤ sizeLine
    rw [List.size_toArray, List.length_take, List.length_drop, Array.length_toList]
    omega
  have hj : sIx items.size items.size hi ≤ items.size := sIx_le _ _ (Nat.le_refl _) hi
  obtain ⟨os, hos, hcs, hds⟩ := id hs
  have hTs : s.TypeIs (.ref sl) "slice" := ⟨os, hos, hcs⟩
  unfold getItem
  try with_reducible refine wpAny_holding ?_
  first | refine wpAny_bind (wpAny_pure ?_) | skip
  refine wpAny_bind (wpAny_sequenceKey ht.typeIs (by decide) ?_)
  refine wpAny_bind (wpAny_callSpecial?_slot (name := Str.ofString "__getitem__") ht.typeIs PyProof.Rows.slot_tuple_getitem
    (wpAny_call_entry PyProof.Rows.slot_tuple_getitem ht.typeIs entry_tuple_getitem ?_ (args_tuple_getitem _ _)))
  show wpAny _ _ (Builtin.Tuple.tupleItemsOf (.ref t) >>= _) _ _ s
  refine wpAny_bind (tupleItemsOf_ ht ?_)
  refine wpAny_bind (wpAny_typeOf hTs ?_)
  rw [if_pos (by decide)]
  refine wpAny_bind (sliceApplied_gen hs pl pu ?_)
  have hno : ¬ ((((sIx items.size 0 lo : Nat) : Int) == 0 && (1 : Int) == 1 && (sIx items.size items.size hi - sIx items.size 0 lo) == items.size) = true) := by
    intro q
    rw [Bool.and_eq_true, Bool.and_eq_true] at q
    have q1 : ((sIx items.size 0 lo : Nat) : Int) = 0 := eq_of_beq q.1.1
    have q2 : sIx items.size items.size hi - sIx items.size 0 lo = items.size := eq_of_beq q.2
    exact hw ⟨by omega, by omega⟩
  show wpAny _ _ (if (((sIx items.size 0 lo : Nat) : Int) == 0 && (1 : Int) == 1 && (sIx items.size items.size hi - sIx items.size 0 lo) == items.size) = true then _ else _) _ _ s
  rw [if_neg hno, pick_gen]
  first
    | exact wpAny_bind (m := Builtin.Tuple.tupleExact _) (wpAny_newObj_type (wpAny_pure ⟨_, rfl, wpAny_pure h⟩) htake)
    | exact wpAny_bind (m := Builtin.Tuple.tupleExact _) (wpAny_newObj_type (wpAny_bind (wpAny_pure (wpAny_pure ⟨_, rfl, wpAny_pure h⟩))) htake)
    | exact wpAny_bind (wpAny_bind (m := Builtin.Tuple.tupleExact _) (wpAny_newObj_type (wpAny_pure (wpAny_pure ⟨_, rfl, wpAny_pure h⟩)) htake))
    | exact wpAny_bind (wpAny_bind (m := Builtin.Tuple.tupleExact _) (wpAny_newObj_type (wpAny_pure ⟨_, rfl, wpAny_pure h⟩) htake))
end
end HT

namespace L2
open PySem PySem.Spec PyProof.Rows

abbrev TO := St → Hp → (Option Int → Hp → Prop) → Prop
def PO (X : Cx) (e : Option Expr) (t : TO) : Prop :=
  ∀ (pins : List (Addr × Obj)) (s : Shared) (σ : St) (H : Hp) (Q : Option Int → Hp → Prop), Inv X pins σ H s → t σ H Q →
    wpAny (model X.prog X.w) X.A (evalPart e X.env) (fun u s' => ∃ o H', Inv X pins σ H' s' ∧ IsPart u o ∧ Q o H') X.xe s
def tNoPart : TO := fun _ H Q => Q none H
def tPart (t : TE) : TO := fun σ H Q => t σ H fun x H1 => ∃ i, x = .int i ∧ Q (some i) H1

theorem intsAre_of {ns : List Int} : ∀ {us : List Value}, Vals (ns.map V.int) us → IntsAre us ns := by
  induction ns with
  | nil => intro us r; rw [List.map_nil] at r; cases r; exact .nil
  | cons n ns ih =>
    intro us r
    rw [List.map_cons] at r
    cases r with
    | cons r1 r2 =>
      obtain ⟨t, e⟩ := r1
      subst e
      exact .cons n t (ih r2)

section
variable {X : Cx} {e : Expr} {te : TE} {lo hi : Option Expr} {tl th : TO} {pos p2 : Pos}

theorem po_none : PO X none tNoPart := by
  intro pins s σ H Q I h
  rw [evalPart_none]
  exact wpAny_pure ⟨none, H, I, .none, h⟩
theorem po_some (h : PE X e te) : PO X (some e) (tPart te) := by
  intro pins s σ H Q I hw
  rw [evalPart_some]
  refine thn (h pins s σ H _ I hw) fun u s1 ⟨x, H1, I1, r1, q1⟩ => ?_
  obtain ⟨i, rfl, q⟩ := q1
  obtain ⟨t, rfl⟩ := r1
  exact ⟨some i, H1, I1, .int i t, q⟩

def SlR (X : Cx) (r : V → Option Int → Option Int → Hp → VK → Prop) : Prop :=
  ∀ (pins : List (Addr × Obj)) (s : Shared) (σ : St) (H : Hp) (x : V) (v vl vu : Value) (lo hi : Option Int) (sl : Addr) (Q : VK), Inv X pins σ H s → RelV x v → s.heap.IsSliceOf sl vl vu .none → IsPart vl lo → IsPart vu hi → r x lo hi H Q →
    ∃ T id, typeLookup (.type T) "__getitem__" = pure (some (.builtin id)) ∧ s.TypeIs v T ∧ wpAny (model X.prog X.w) X.A (getItem v (.ref sl)) (EP X pins σ Q) X.xe s
theorem SlR.or {r r' : V → Option Int → Option Int → Hp → VK → Prop} (h : SlR X r) (h' : SlR X r') : SlR X (fun x lo hi H Q => r x lo hi H Q ∨ r' x lo hi H Q) := by
  intro pins s σ H x v vl vu lo hi sl Q I rx hs pl pu q
  rcases q with q | q
  · exact h pins s σ H x v vl vu lo hi sl Q I rx hs pl pu q
  · exact h' pins s σ H x v vl vu lo hi sl Q I rx hs pl pu q
def tSl (r : V → Option Int → Option Int → Hp → VK → Prop) (te : TE) (tl th : TO) : TE := fun σ H Q => te σ H fun x H1 => tl σ H1 fun l H2 => th σ H2 fun u H3 => r x l u H3 Q
theorem pe_slice {r : V → Option Int → Option Int → Hp → VK → Prop} (hr : SlR X r) (he : PE X e te) (hl : PO X lo tl) (hu : PO X hi th) : PE X (.Subscript e (.Slice lo hi none p2) pos) (tSl r te tl th) := by
  intro pins s σ H Q I h
  refine Subscript_ (thn (he pins s σ H _ I h) fun v s1 ⟨x, H1, I1, r1, q1⟩ => ?_)
  refine wpAny_Slice (thn (hl pins s1 σ H1 _ I1 q1) fun vl s2 ⟨l, H2, I2, pl, q2⟩ => thn (hu pins s2 σ H2 _ I2 q2) fun vu s3 ⟨u, H3, I3, pu, q3⟩ => ?_)
  rw [evalPart_none]
  refine wpAny_pure ?_
  have I4 : Inv X pins σ H3 { s3 with heap := s3.heap.push { cls := .type "slice", data := .fields #[vl, vu, .none] } } := I3.kept (t' := s3.toks) fun b ob q => Heap.get?_push_of_some _ q
  obtain ⟨T, id, hT, ht, hg⟩ := hr pins { s3 with heap := s3.heap.push { cls := .type "slice", data := .fields #[vl, vu, .none] } } σ H3 x v vl vu l u s3.heap.objs.size Q I4 r1 (Heap.IsSliceOf.new ..) pl pu q3
  show wpAny (model X.prog X.w) X.A (subscriptTail e (.Slice lo hi none p2) v (.ref s3.heap.objs.size)) (EP X pins σ Q) X.xe { s3 with heap := s3.heap.push { cls := .type "slice", data := .fields #[vl, vu, .none] } }
  exact tail_any (ops := [.ref s3.heap.objs.size, v]) ht hT hg (by with_unfolding_all rfl)

def cutV (xs : List V) (lo hi : Option Int) : List V := (xs.drop (HT.sIx xs.length 0 lo)).take (HT.sIx xs.length xs.length hi - HT.sIx xs.length 0 lo)
theorem cutV_length (xs : List V) (lo hi : Option Int) : (cutV xs lo hi).length ≤ xs.length := by
  unfold cutV
  rw [List.length_take, List.length_drop]
  omega
def rSlT (K : PySem.W.Frag) : V → Option Int → Option Int → Hp → VK → Prop := fun x lo hi H Q => ∃ a xs, x = .ref a ∧ SqT K H a xs ∧
  ¬ (HT.sIx xs.length 0 lo = 0 ∧ HT.sIx xs.length xs.length hi = xs.length) ∧ ∀ p, H p = none → Q (.ref p) (upd H p (.tup (cutV xs lo hi)))
theorem sl_tup : SlR X (rSlT X.K) := by
  intro pins s σ H x v vl vu lo hi sl Q I rx hs pl pu h
  obtain ⟨a, xs, rfl, hx, hw, q⟩ := h
  cases rx
  obtain ⟨its, r, ht, hz⟩ := I.tuple hx
  have hlen : its.toArray.size = xs.length := by rw [List.size_toArray]; exact r.length.symm
  refine ⟨"tuple", _, PyProof.Rows.slot_tuple_getitem.lookup, ht.typeIs, ?_⟩
  refine HT.getItem_tuple_cut ht hs pl pu (by rw [hlen]; exact hw) ?_ (by rw [hlen]; exact hz)
  rw [hlen]
  refine ⟨.ref s.heap.objs.size, _, I.laid (t' := s.toks) (o := .tup (cutV xs lo hi)) (fun b ob q => Heap.get?_push_of_some _ q) (Nat.le_refl _) ?_, rfl, q _ (I.hok.fresh (Nat.le_refl _))⟩
  exact ⟨Nat.le_trans (cutV_length xs lo hi) hz, _, (r.drop (HT.sIx xs.length 0 lo)).take (HT.sIx xs.length xs.length hi - HT.sIx xs.length 0 lo), IsTup.new _ _⟩

def rLtT (K : PySem.W.Frag) : R2 := fun x y H Q => ∃ a b ns ms, x = .ref a ∧ y = .ref b ∧ SqT K H a (ns.map V.int) ∧ SqT K H b (ms.map V.int) ∧ Q (.bl (HT.lexLt ns ms)) H
theorem op_ltT (hu : X.A.units < cLine) : OpR X (compareOp .Lt) (rLtT X.K) := by
  intro pins s σ H x y v u Q I rx ry h
  obtain ⟨a, b, ns, ms, rfl, rfl, ha, hb, q⟩ := h
  cases rx
  cases ry
  obtain ⟨its, r1, p1, _⟩ := I.tuple ha
  obtain ⟨its2, r2, p2, _⟩ := I.tuple hb
  have i1 : IntsAre its.toArray.toList ns := intsAre_of r1
  have i2 : IntsAre its2.toArray.toList ms := intsAre_of r2
  exact HT.lt_tupInts p1 p2 i1 i2 hu ⟨.bl (HT.lexLt ns ms), H, I, rfl, q⟩
def rCatT (K : PySem.W.Frag) : R2 := fun x y H Q => ∃ a b xs ys, x = .ref a ∧ y = .ref b ∧ SqT K H a xs ∧ SqT K H b ys ∧ xs ≠ [] ∧ xs.length + ys.length ≤ sizeLine ∧
  (ys = [] → Q (.ref a) H) ∧ (ys ≠ [] → ∀ p, H p = none → Q (.ref p) (upd H p (.tup (xs ++ ys))))
theorem Vals.nil_iff {xs : List V} {us : List Value} (r : Vals xs us) : us = [] ↔ xs = [] := by
  cases r with
  | nil => simp
  | cons _ _ => simp
theorem op_catT : OpR X (binaryOp .Add) (rCatT X.K) := by
  intro pins s σ H x y v u Q I rx ry h
  obtain ⟨a, b, xs, ys, rfl, rfl, ha, hb, hx, hz, q1, q2⟩ := h
  cases rx
  cases ry
  obtain ⟨its, r1, p1, _⟩ := I.tuple ha
  obtain ⟨its2, r2, p2, _⟩ := I.tuple hb
  refine HT.cat_tup p1 p2 (fun z => hx (r1.nil_iff.mp z)) (fun z => ⟨.ref a, H, I, rfl, q1 (r2.nil_iff.mp z)⟩) (fun z => ?_) (by rw [← r1.length, ← r2.length]; exact hz)
  refine ⟨.ref s.heap.objs.size, _, I.laid (t' := s.toks) (o := .tup (xs ++ ys)) (fun b ob q => Heap.get?_push_of_some _ q) (Nat.le_refl _) ?_, rfl, q2 (fun w => z (r2.nil_iff.mpr w)) _ (I.hok.fresh (Nat.le_refl _))⟩
  exact ⟨by rw [List.length_append]; exact hz, _, r1.append r2, IsTup.new _ _⟩
theorem call_tupleT : CallR X (.type "tuple") (fun xs H Q => ∃ a ys, xs = [.ref a] ∧ SqT X.K H a ys ∧ Q (.ref a) H) := by
  intro pins s σ H xs us Q I r h
  obtain ⟨a, ys, rfl, ha, q⟩ := h
  obtain ⟨u, rfl, ru⟩ := vals1 r
  cases ru
  obtain ⟨its, _, p1, _⟩ := I.tuple ha
  exact call_tuple_same (items := its.toArray) p1 ⟨.ref a, H, I, rfl, q⟩
end
end L2

namespace L2
open PySem PySem.Spec PyProof.Rows

def ixN (n : Nat) (i : Int) : Option Nat := if 0 ≤ i then (if i < n then some i.toNat else none) else if -(n : Int) ≤ i then some (i + n).toNat else none
def atI {α : Type} (xs : List α) (i : Int) : Option α := (ixN xs.length i).bind fun j => xs[j]?
theorem ixN_seq {n : Nat} {i : Int} {j : Nat} (h : ixN n i = some j) : seqIndex? i n = some j ∧ j < n ∧ -(n : Int) ≤ i ∧ i < n := by
  unfold ixN at h
  by_cases h0 : 0 ≤ i
  · rw [if_pos h0] at h
    by_cases h1 : i < n
    · rw [if_pos h1] at h
      have e : i.toNat = j := Option.some.inj h
      exact ⟨by rw [seqIndex_of h0 h1, e], by omega, by omega, h1⟩
    · rw [if_neg h1] at h; cases h
  · rw [if_neg h0] at h
    by_cases h1 : -(n : Int) ≤ i
    · rw [if_pos h1] at h
      have e : (i + n).toNat = j := Option.some.inj h
      exact ⟨by rw [seqIndex_neg (by omega) h1, e], by omega, h1, by omega⟩
    · rw [if_neg h1] at h; cases h
theorem atI_get {α : Type} {xs : List α} {i : Int} {v : α} (h : atI xs i = some v) : ∃ j, seqIndex? i xs.length = some j ∧ xs[j]? = some v ∧ j < xs.length ∧ -(xs.length : Int) ≤ i ∧ i < xs.length := by
  unfold atI at h
  cases e : ixN xs.length i with
  | none => rw [e] at h; cases h
  | some j =>
    rw [e] at h
    obtain ⟨h1, h2, h3, h4⟩ := ixN_seq e
    exact ⟨j, h1, h, h2, h3, h4⟩
theorem atI_nat {α : Type} {xs : List α} {j : Nat} {v : α} (h : xs[j]? = some v) : atI xs (j : Int) = some v := by
  have hj : j < xs.length := (List.getElem?_eq_some_iff.mp h).1
  have e : ixN xs.length (j : Int) = some j := by
    unfold ixN
    rw [if_pos (by omega), if_pos (by omega)]; simp
  unfold atI; rw [e]; exact h
theorem atI_last {α : Type} (xs : List α) (v : α) : atI (xs ++ [v]) (-1) = some v := by
  have hl : (xs ++ [v]).length = xs.length + 1 := by simp
  have e : ixN (xs ++ [v]).length (-1) = some xs.length := by
    unfold ixN
    rw [hl, if_neg (by decide), if_pos (by omega)]
    congr 1
    omega
  unfold atI
  rw [e]
  show (xs ++ [v])[xs.length]? = some v
  simp

def PlainIx (b : Expr) : Prop := ∀ o i, subscripted b false o i = operate [o, i] (getItem o i)
def IxR (X : Cx) (r : R2) : Prop :=
  ∀ (value slice : Expr) (pins : List (Addr × Obj)) (s : Shared) (σ : St) (H : Hp) (x y : V) (v u : Value) (Q : VK), Inv X pins σ H s → RelV x v → RelV y u → r x y H Q →
    subscripted slice false v u = operate [v, u] (getItem v u) → wpAny (model X.prog X.w) X.A (subscriptTail value slice v u) (EP X pins σ Q) X.xe s
def MtR (X : Cx) (id : String) (r : V → List V → Hp → VK → Prop) : Prop :=
  ∀ (pins : List (Addr × Obj)) (s : Shared) (σ : St) (H : Hp) (x : V) (xs : List V) (v : Value) (us : List Value) (Q : VK), Inv X pins σ H s → RelV x v → Vals xs us → r x xs H Q →
    wpAny (model X.prog X.w) X.A (call (.builtin id) (v :: us)) (EP X pins σ Q) X.xe s
section
variable {X : Cx} {a b : Expr} {ta tb : TE} {pos : Pos}
theorem IxR.or {r r' : R2} (h : IxR X r) (h' : IxR X r') : IxR X (fun x y H Q => r x y H Q ∨ r' x y H Q) := by
  intro value slice pins s σ H x y v u Q I rx ry q hs
  rcases q with q | q
  · exact h value slice pins s σ H x y v u Q I rx ry q hs
  · exact h' value slice pins s σ H x y v u Q I rx ry q hs
theorem MtR.or {id : String} {r r' : V → List V → Hp → VK → Prop} (h : MtR X id r) (h' : MtR X id r') : MtR X id (fun x xs H Q => r x xs H Q ∨ r' x xs H Q) := by
  intro pins s σ H x xs v us Q I rx rs q
  rcases q with q | q
  · exact h pins s σ H x xs v us Q I rx rs q
  · exact h' pins s σ H x xs v us Q I rx rs q
theorem pe_ix {r : R2} (hr : IxR X r) (ha : PE X a ta) (hb : PE X b tb) (hs : PlainIx b) : PE X (.Subscript a b pos) (tOp r ta tb) := by
  intro pins s σ H Q I h
  exact Subscript_ (binT ha hb I h fun v u s2 x y H2 I2 rx ry q => hr a b pins s2 σ H2 x y v u Q I2 rx ry q (hs _ _))

def rIxL (K : PySem.W.Frag) : R2 := fun x y H Q => ∃ p xs i v, x = .ref p ∧ y = .int i ∧ SqL K H p xs ∧ atI xs i = some v ∧ Q v H
def rIxT (K : PySem.W.Frag) : R2 := fun x y H Q => ∃ p xs i v, x = .ref p ∧ y = .int i ∧ SqT K H p xs ∧ atI xs i = some v ∧ Q v H
def rIxS : R2 := fun x y H Q => ∃ z i c, x = .str z ∧ y = .int i ∧ z.length ≤ sizeLine ∧ atI z.cps.toList i = some c ∧ Q (.str ⟨#[c]⟩) H
theorem ix_list : IxR X (rIxL X.K) := by
  intro value slice pins s σ H x y v u Q I rx ry h hs
  obtain ⟨p, xs, i, z, rfl, rfl, hq, he, q⟩ := h
  cases rx
  obtain ⟨t, rfl⟩ := ry
  obtain ⟨its, r, pl, hz⟩ := I.list hq
  obtain ⟨j, h1, h2, h3, h4, h5⟩ := atI_get he
  obtain ⟨w, ew, rw'⟩ := r.get h2
  have hl := r.length
  have hn := line63
  have fin : EP X pins σ Q w s := ⟨z, H, I, rw', q⟩
  by_cases h0 : 0 ≤ i
  · have hj : i.toNat = j := by
      rw [seqIndex_of h0 h5] at h1
      exact Option.some.inj h1
    exact item_listR pl.isList h0 (by omega) (by rw [hj]; simpa using ew) fin hs
  · have hj : (i + (its.toArray.size : Int)).toNat = j := by
      rw [seqIndex_neg (by omega) h4] at h1
      rw [List.size_toArray, ← hl]
      exact Option.some.inj h1
    exact subscriptTail_builtinR (x := w) pl.isList.typeIs slot_list_getitem.lookup
      (wpAny_getItem_list_neg (Q := fun r s' => r = w ∧ EP X pins σ Q r s') pl.isList (by omega) (by rw [List.size_toArray] <;> omega) (by omega) (by rw [hj]; simpa using ew) ⟨rfl, fin⟩) hs
theorem ix_tup : IxR X (rIxT X.K) := by
  intro value slice pins s σ H x y v u Q I rx ry h hs
  obtain ⟨p, xs, i, z, rfl, rfl, hq, he, q⟩ := h
  cases rx
  obtain ⟨t, rfl⟩ := ry
  obtain ⟨its, r, pl, hz⟩ := I.tuple hq
  obtain ⟨j, h1, h2, h3, h4, h5⟩ := atI_get he
  obtain ⟨w, ew, rw'⟩ := r.get h2
  have hl := r.length
  have hn := line63
  have fin : EP X pins σ Q w s := ⟨z, H, I, rw', q⟩
  exact subscriptTail_builtinR (x := w) pl.typeIs slot_tuple_getitem.lookup
    (getItem_tuple (j := j) (Q := fun r s' => r = w ∧ EP X pins σ Q r s') pl (by omega) (by omega) (by rw [List.size_toArray, ← hl]; exact h1) (by simpa using ew) ⟨rfl, fin⟩) hs
theorem ix_str : IxR X rIxS := by
  intro value slice pins s σ H x y v u Q I rx ry h hs
  obtain ⟨z, i, c, rfl, rfl, hz, he, q⟩ := h
  obtain ⟨t, rfl⟩ := rx
  obtain ⟨t', rfl⟩ := ry
  obtain ⟨j, h1, h2, h3, h4, h5⟩ := atI_get he
  have hl : z.cps.toList.length = z.length := by simp [Str.length]
  rw [hl] at h1 h4 h5
  have hn := line63
  exact tail_any (typeIs_str s z t) slot_str_getitem.lookup (getItem_str (c := c) (by
    have e1 : decide (i < -(2 ^ 63 : Int)) = false := decide_eq_false (by omega)
    have e2 : decide (i ≥ 2 ^ 63) = false := decide_eq_false (by omega)
    rw [e1, e2, Bool.or_false]) (by rw [h1]; simpa using h2) ⟨.str ⟨#[c]⟩, H, I.tok _, ⟨_, rfl⟩, q⟩) hs
def rIx (K : PySem.W.Frag) : R2 := fun x y H Q => rIxL K x y H Q ∨ rIxT K x y H Q ∨ rIxS x y H Q
theorem ix_seq : IxR X (rIx X.K) := ix_list.or (ix_tup.or ix_str)

theorem mapSeq_set (its : List Value) (n j : Nat) (u : Value) : Obj.mapSeq (·.setIfInBounds j u) { cls := .type "list", data := .seq its.toArray n } = { cls := .type "list", data := .seq (its.set j u).toArray n } := by
  simp [Obj.mapSeq]
theorem Inv.lst {pins : List (Addr × Obj)} {σ : St} {H : Hp} {s : Shared} {p : Addr} {xs : List V} (I : Inv X pins σ H s) (h : H p = some (.lst xs)) :
    ∃ (its : List Value) (n : Nat), Vals xs its ∧ s.heap.get? p = some { cls := .type "list", data := .seq its.toArray n } ∧ xs.length ≤ sizeLine := by
  obtain ⟨z, its, n, r, e⟩ := I.hok p _ h
  exact ⟨its, n, r, e, z⟩
theorem Inv.lstUpd {pins : List (Addr × Obj)} {σ : St} {H : Hp} {s : Shared} {p : Addr} {xs ys : List V} {its its' : List Value} {n n' : Nat} {f : Obj → Obj} (I : Inv X pins σ H s) (h : H p = some (.lst xs))
    (ho : s.heap.get? p = some { cls := .type "list", data := .seq its.toArray n }) (hf : f { cls := .type "list", data := .seq its.toArray n } = { cls := .type "list", data := .seq its'.toArray n' }) (r : Vals ys its') (hz : ys.length ≤ sizeLine) (t : Nat) :
    Inv X pins σ (upd H p (.lst ys)) { s with heap := s.heap.update p f, toks := t } := by
  have e : (s.heap.update p f).get? p = some { cls := .type "list", data := .seq its'.toArray n' } := by
    rw [Heap.get?_update_self f ho (by rw [hf] <;> rfl), hf]
  refine I.write (x := p) (e := p) (by rw [h]; trivial) (.inl rfl) (fun b u hb q => (Heap.get?_update_other _ _ (Ne.symm hb)).trans q) ⟨_, e⟩ ?_
  exact ⟨hz, its', n', r, e⟩
def rSetL : V → V → V → Hp → (Hp → Prop) → Prop := fun o i v H Q => ∃ p xs k j, o = .ref p ∧ i = .int k ∧ H p = some (.lst xs) ∧ ixN xs.length k = some j ∧ Q (upd H p (.lst (xs.set j v)))
theorem set_list : PSet X rSetL := by
  intro pins s σ H o i v ov iv u Q I ro ri rv h
  obtain ⟨p, xs, k, j, rfl, rfl, hp, hj, q⟩ := h
  cases ro
  obtain ⟨t, rfl⟩ := ri
  obtain ⟨its, n, r, ho, hz⟩ := I.lst hp
  obtain ⟨h1, h2, h3, h4⟩ := ixN_seq hj
  have hl := r.length
  have hn := line63
  have I' : Inv X pins σ (upd H p (.lst (xs.set j v))) { s with heap := s.heap.update p (Obj.mapSeq (·.setIfInBounds j u)) } :=
    I.lstUpd hp ho (mapSeq_set its n j u) (r.set rv j) (by rw [List.length_set]; exact hz) s.toks
  by_cases h0 : 0 ≤ k
  · have hk : k.toNat = j := by
      rw [seqIndex_of h0 h4] at h1
      exact Option.some.inj h1
    exact PySem.W.ki_setAt ho h0 (by omega) (by rw [List.size_toArray, ← hl]; exact h4) (by rw [hk]; exact ⟨_, I', q⟩)
  · have hk : (k + (its.toArray.size : Int)).toNat = j := by
      rw [seqIndex_neg (by omega) h3] at h1
      rw [List.size_toArray, ← hl]
      exact Option.some.inj h1
    exact PySem.W.ki_setBack ho (by omega) (by rw [List.size_toArray, ← hl]; exact h3) (by omega) (by rw [hk]; exact ⟨_, I', q⟩)

theorem slice_bounds (lo hi : Option Int) (n : Nat) : (sliceBounds lo hi none n).1 = ((HT.sIx n 0 lo : Nat) : Int) ∧ (sliceBounds lo hi none n).2.1 = ((HT.sIx n n hi : Nat) : Int) ∧ (sliceBounds lo hi none n).2.2 = 1 := by
  refine ⟨?_, ?_, rfl⟩
  · cases lo with
    | none => simp [sliceBounds, HT.sIx]
    | some i =>
      simp only [sliceBounds, HT.sIx, Option.getD_none, show (1 : Int) > 0 by decide, if_true]
      by_cases h : i < 0
      · simp only [h, if_true] <;> omega
      · simp only [h, if_false] <;> omega
  · cases hi with
    | none => simp [sliceBounds, HT.sIx]
    | some i =>
      simp only [sliceBounds, HT.sIx, Option.getD_none, show (1 : Int) > 0 by decide, if_true]
      by_cases h : i < 0
      · simp only [h, if_true] <;> omega
      · simp only [h, if_false] <;> omega
theorem slicePick_cut (its : List Value) (lo hi : Option Int) : slicePick its.toArray lo hi none = ((its.drop (HT.sIx its.length 0 lo)).take (HT.sIx its.length its.length hi - HT.sIx its.length 0 lo)).toArray := by
  obtain ⟨h1, h2, h3⟩ := slice_bounds lo hi its.toArray.size
  unfold slicePick
  rw [h1, h2, h3]
  simp only [sliceRange_one, pick_run, List.size_toArray] <;> rfl
def rSlL (K : PySem.W.Frag) : V → Option Int → Option Int → Hp → VK → Prop := fun x lo hi H Q => ∃ a xs, x = .ref a ∧ SqL K H a xs ∧ ∀ p, H p = none → Q (.ref p) (upd H p (.lst (cutV xs lo hi)))
theorem sl_list : SlR X (rSlL X.K) := by
  intro pins s σ H x v vl vu lo hi sl Q I rx hs pl pu h
  obtain ⟨a, xs, rfl, hx, q⟩ := h
  cases rx
  obtain ⟨its, r, ht, hz⟩ := I.list hx
  have hlen := r.length
  refine ⟨"list", _, slot_list_getitem.lookup, ht.isList.typeIs, ?_⟩
  refine wpAny_getItem_list_slice ht.isList hs pl pu .none (by simp) ?_ (by rw [List.size_toArray] <;> omega)
  rw [slicePick_cut, ← hlen]
  refine ⟨.ref s.heap.objs.size, _, I.laid (t' := s.toks) (o := .lst (cutV xs lo hi)) (fun b ob q => Heap.get?_push_of_some _ q) (Nat.le_refl _) ?_, rfl, q _ (I.hok.fresh (Nat.le_refl _))⟩
  exact ⟨Nat.le_trans (cutV_length xs lo hi) hz, _, 0, (r.drop (HT.sIx xs.length 0 lo)).take (HT.sIx xs.length xs.length hi - HT.sIx xs.length 0 lo), Heap.get?_push_size _ rfl⟩

def flatV : V → Bool
  | .non => true
  | .bl _ => true
  | .int _ => true
  | .str _ => true
  | _ => false
def eqV : V → V → Bool
  | .non, .non => true
  | .bl a, .bl b => a == b
  | .bl a, .int b => (if a then 1 else 0) == b
  | .int a, .bl b => a == (if b then 1 else 0)
  | .int a, .int b => a == b
  | .str a, .str b => a == b
  | _, _ => false
theorem eqAt_V {A : Around} {s : Shared} {y x : V} {u v : Value} (ry : RelV y u) (rx : RelV x v) (fy : flatV y = true) (fx : flatV x = true) : SeqAt.EqAt A s u v (eqV y x) := by
  cases y with
  | non =>
    cases ry
    cases x with
    | non => cases rx; exact SeqAt.EqAt.same _
    | bl b => cases rx; exact SeqAt.EqAt.none_bool b
    | int b => obtain ⟨t, rfl⟩ := rx; exact SeqAt.EqAt.none_int b t
    | str b => obtain ⟨t, rfl⟩ := rx; exact SeqAt.EqAt.none_str b t
    | _ => exact absurd (show false = true from fx) Bool.false_ne_true
  | bl a =>
    cases ry
    cases x with
    | non => cases rx; exact SeqAt.EqAt.bool_none a
    | bl b => cases rx; exact SeqAt.EqAt.bool_bool a b
    | int b => obtain ⟨t, rfl⟩ := rx; exact SeqAt.EqAt.bool_int a b t
    | str b => obtain ⟨t, rfl⟩ := rx; exact SeqAt.EqAt.bool_str a b t
    | _ => exact absurd (show false = true from fx) Bool.false_ne_true
  | int a =>
    obtain ⟨t', rfl⟩ := ry
    cases x with
    | non => cases rx; exact SeqAt.EqAt.int_none a t'
    | bl b => cases rx; exact SeqAt.EqAt.int_bool a t' b
    | int b => obtain ⟨t, rfl⟩ := rx; exact SeqAt.EqAt.int_int a t' b t
    | str b => obtain ⟨t, rfl⟩ := rx; exact SeqAt.EqAt.int_str a t' b t
    | _ => exact absurd (show false = true from fx) Bool.false_ne_true
  | str a =>
    obtain ⟨t', rfl⟩ := ry
    cases x with
    | non => cases rx; exact SeqAt.EqAt.str_none a t'
    | bl b => cases rx; exact SeqAt.EqAt.str_bool a t' b
    | int b => obtain ⟨t, rfl⟩ := rx; exact SeqAt.EqAt.str_int a t' b t
    | str b => obtain ⟨t, rfl⟩ := rx; exact SeqAt.EqAt.str_str a t' b t
    | _ => exact absurd (show false = true from fx) Bool.false_ne_true
  | _ => exact absurd (show false = true from fy) Bool.false_ne_true
def eqU (x : V) (u : Value) : Bool := match u with
  | .none => eqV .non x
  | .bool b => eqV (.bl b) x
  | .int i _ => eqV (.int i) x
  | .str z _ => eqV (.str z) x
  | _ => false
theorem eqU_of {x y : V} {u : Value} (r : RelV y u) (f : flatV y = true) : eqU x u = eqV y x := by
  cases y with
  | non => cases r; rfl
  | bl b => cases r; rfl
  | int i => obtain ⟨t, rfl⟩ := r; rfl
  | str z => obtain ⟨t, rfl⟩ := r; rfl
  | _ => exact absurd (show false = true from f) Bool.false_ne_true
theorem any_eqU {x : V} : ∀ {xs : List V} {us : List Value}, Vals xs us → xs.all flatV = true → us.any (eqU x) = xs.any fun y => eqV y x
  | _, _, .nil, _ => rfl
  | y :: xs, u :: us, .cons r t, f => by
    rw [List.all_cons, Bool.and_eq_true] at f
    rw [List.any_cons, List.any_cons, eqU_of r f.1, any_eqU t f.2]
theorem mem_eqAt {A : Around} {s : Shared} {x : V} {v : Value} (rx : RelV x v) (fx : flatV x = true) : ∀ {xs : List V} {us : List Value}, Vals xs us → xs.all flatV = true → ∀ u ∈ us, SeqAt.EqAt A s u v (eqU x u)
  | _, _, .nil, _ => fun u hu => by cases hu
  | y :: xs, u :: us, .cons r t, f => fun u' hu => by
    rw [List.all_cons, Bool.and_eq_true] at f
    rcases List.mem_cons.mp hu with rfl | hu
    · rw [eqU_of r f.1]; exact eqAt_V r rx f.1 fx
    · exact mem_eqAt rx fx t f.2 u' hu
def inV (x : V) (xs : List V) : Bool := xs.any fun y => eqV y x
def rIn (K : PySem.W.Frag) (neg : Bool) : R2 := fun x y H Q => ∃ p xs, y = .ref p ∧ (SqL K H p xs ∨ SqT K H p xs) ∧ flatV x = true ∧ xs.all flatV = true ∧ Q (.bl (if neg then !inV x xs else inV x xs)) H
theorem op_in_seq : OpR X (compareOp .In) (rIn X.K false) := by
  intro pins s σ H x y v u Q I rx ry h
  obtain ⟨p, xs, rfl, hq, fx, fs, q⟩ := h
  cases ry
  rcases hq with hq | hq
  · obtain ⟨its, r, pl, hz⟩ := I.list hq
    refine SeqAt.in_listAt (eqU x) pl.isList (fun w hw => mem_eqAt rx fx r fs w (by simpa using hw)) ⟨.bl _, H, I, rfl, ?_⟩
    rw [show its.toArray.any (eqU x) = its.any (eqU x) by simp, any_eqU r fs]
    exact q
  · obtain ⟨its, r, pl, hz⟩ := I.tuple hq
    refine SeqAt.in_tupleAt (eqU x) pl (fun w hw => mem_eqAt rx fx r fs w (by simpa using hw)) ⟨.bl _, H, I, rfl, ?_⟩
    rw [show its.toArray.any (eqU x) = its.any (eqU x) by simp, any_eqU r fs]
    exact q
theorem op_notIn_seq : OpR X (compareOp .NotIn) (rIn X.K true) := by
  intro pins s σ H x y v u Q I rx ry h
  obtain ⟨p, xs, rfl, hq, fx, fs, q⟩ := h
  cases ry
  rcases hq with hq | hq
  · obtain ⟨its, r, pl, hz⟩ := I.list hq
    refine SeqAt.notIn_listAt (eqU x) pl.isList (fun w hw => mem_eqAt rx fx r fs w (by simpa using hw)) ⟨.bl _, H, I, rfl, ?_⟩
    rw [show its.toArray.any (eqU x) = its.any (eqU x) by simp, any_eqU r fs]
    exact q
  · obtain ⟨its, r, pl, hz⟩ := I.tuple hq
    refine SeqAt.notIn_tupleAt (eqU x) pl (fun w hw => mem_eqAt rx fx r fs w (by simpa using hw)) ⟨.bl _, H, I, rfl, ?_⟩
    rw [show its.toArray.any (eqU x) = its.any (eqU x) by simp, any_eqU r fs]
    exact q
theorem op_notIn_str : OpR X (compareOp .NotIn) (fun x y H Q => ∃ i j, x = .str i ∧ y = .str j ∧ Q (.bl (!(!(Builtin.Str.occurrences j i 0 j.length 1).isEmpty))) H) := by
  intro pins s σ H x y v u Q I rx ry h
  obtain ⟨i, j, rfl, rfl, q⟩ := h
  obtain ⟨t, rfl⟩ := rx
  obtain ⟨t', rfl⟩ := ry
  exact notIn_str ⟨.bl _, H, I, rfl, q⟩

theorem call_len_seq : CallR X (.builtin "len") (fun xs H Q => ∃ p ys, xs = [.ref p] ∧ (SqL X.K H p ys ∨ SqT X.K H p ys) ∧ Q (.int ys.length) H) := by
  intro pins s σ H xs us Q I r h
  obtain ⟨p, ys, rfl, hq, q⟩ := h
  obtain ⟨u, rfl, rx⟩ := vals1 r
  cases rx
  have hn := line63
  rcases hq with hq | hq
  · obtain ⟨its, r', pl, hz⟩ := I.list hq
    have hlen := r'.length
    exact Calls.call_len_list pl.isList (by simp only [List.size_toArray] <;> omega) ⟨.int ys.length, H, I.tok _, ⟨s.toks + 1, by rw [List.size_toArray, hlen]⟩, q⟩
  · obtain ⟨its, r', pl, hz⟩ := I.tuple hq
    have hlen := r'.length
    exact len_tuple pl (by simp only [List.size_toArray] <;> omega) ⟨.int ys.length, H, I.tok _, ⟨s.toks + 1, by rw [List.size_toArray, hlen]⟩, q⟩
theorem call_len_str : CallR X (.builtin "len") (fun xs H Q => ∃ z, xs = [.str z] ∧ z.length ≤ sizeLine ∧ Q (.int z.length) H) := by
  intro pins s σ H xs us Q I r h
  obtain ⟨z, rfl, hz, q⟩ := h
  obtain ⟨u, rfl, t, rfl⟩ := vals1 r
  have hn := line63
  exact len_str (by omega) ⟨.int z.length, H, I.tok _, ⟨_, rfl⟩, q⟩
theorem CallR.or {f : Value} {r r' : List V → Hp → VK → Prop} (h : CallR X f r) (h' : CallR X f r') : CallR X f (fun xs H Q => r xs H Q ∨ r' xs H Q) := by
  intro pins s σ H xs us Q I rs q
  rcases q with q | q
  · exact h pins s σ H xs us Q I rs q
  · exact h' pins s σ H xs us Q I rs q
theorem call_list_of : CallR X (.type "list") (fun xs H Q => ∃ p ys, xs = [.ref p] ∧ (SqL X.K H p ys ∨ SqT X.K H p ys) ∧ ∀ l, H l = none → Q (.ref l) (upd H l (.lst ys))) := by
  intro pins s σ H xs us Q I r h
  obtain ⟨p, ys, rfl, hq, q⟩ := h
  obtain ⟨u, rfl, rx⟩ := vals1 r
  cases rx
  have fin : ∀ (its : List Value), Vals ys its → ys.length ≤ sizeLine → ∀ (h' : Heap) (c' : Nat), (∀ b o', s.heap.get? b = some o' → h'.get? b = some o') →
      h'.get? s.heap.objs.size = some { cls := .type "list", dict := none, data := .seq its.toArray c', slots := #[] } → EP X pins σ Q (.ref s.heap.objs.size) { s with heap := h' } := fun its r' hz h' c' kp e =>
    ⟨.ref s.heap.objs.size, _, I.laid (t' := s.toks) kp (Nat.le_refl _) (show ObjOk X.prog X.w _ h' _ (.lst ys) from ⟨hz, its, c', r', e⟩), rfl, q _ (I.hok.fresh (Nat.le_refl _))⟩
  rcases hq with hq | hq
  · obtain ⟨its, r', pl, hz⟩ := I.list hq
    have hlen := r'.length
    obtain ⟨o, ho, hc, n, hd⟩ := pl.isList
    exact call_list_seq p (.inl rfl) ho hc hd (fun h' c' kp e => fin its r' hz h' c' kp e) (by simp only [List.size_toArray] <;> omega)
  · obtain ⟨its, r', pl, hz⟩ := I.tuple hq
    have hlen := r'.length
    obtain ⟨o, ho, hc, n, hd⟩ := pl
    exact call_list_seq p (.inr rfl) ho hc hd (fun h' c' kp e => fin its r' hz h' c' kp e) (by simp only [List.size_toArray] <;> omega)
theorem call_tuple_of : CallR X (.type "tuple") (fun xs H Q => ∃ p ys, xs = [.ref p] ∧ ((SqL X.K H p ys ∧ ∀ l, H l = none → Q (.ref l) (upd H l (.tup ys))) ∨ (SqT X.K H p ys ∧ Q (.ref p) H))) := by
  intro pins s σ H xs us Q I r h
  obtain ⟨p, ys, rfl, h⟩ := h
  obtain ⟨u, rfl, rx⟩ := vals1 r
  cases rx
  rcases h with ⟨hq, q⟩ | ⟨hq, q⟩
  · obtain ⟨its, r', pl, hz⟩ := I.list hq
    have hlen := r'.length
    refine call_tuple_list pl.isList (fun h' kp => ?_) (by simp only [List.size_toArray] <;> omega)
    have I1 : Inv X pins σ H { s with heap := h' } := I.kept (t' := s.toks) kp
    have I2 : Inv X pins σ (upd H h'.objs.size (.tup ys)) { s with heap := h'.push { cls := .type "tuple", data := .seq its.toArray } } :=
      I1.laid (t' := s.toks) (fun b o e => Heap.get?_push_of_some _ e) (Nat.le_refl _) (show ObjOk X.prog X.w _ _ _ (.tup ys) from ⟨hz, its, r', IsTup.new _ _⟩)
    exact ⟨.ref h'.objs.size, _, I2, rfl, q _ (I1.hok.fresh (Nat.le_refl _))⟩
  · obtain ⟨its, r', pl, hz⟩ := I.tuple hq
    exact call_tuple_same pl ⟨.ref p, H, I, rfl, q⟩

def tyV (K : PySem.W.Frag) (T : String) (x : V) (H : Hp) : Prop := match x with
  | .str _ => T = "str"
  | .int _ => T = "int"
  | .ref p => (T = "list" ∧ ∃ xs, SqL K H p xs) ∨ (T = "tuple" ∧ ∃ o, K.lookup p = some o ∧ o.cls = .type "tuple" ∧ o.dict = none) ∨
      (T = "dict" ∧ ((∃ kvs, H p = some (.dK kvs)) ∨ ∃ kvs, H p = some (.dT kvs))) ∨ (T = "set" ∧ ∃ S n, H p = some (.set S n))
  | _ => False
theorem tyV_is {pins : List (Addr × Obj)} {σ : St} {H : Hp} {s : Shared} {T : String} {x : V} {v : Value} (I : Inv X pins σ H s) (r : RelV x v) (ty : tyV X.K T x H) :
    s.TypeIs v T ∧ ∀ a, v = .ref a → ∃ ob, s.heap.get? a = some ob ∧ ob.dict = none := by
  cases x with
  | str z =>
    obtain ⟨t, rfl⟩ := r
    cases (show T = "str" from ty)
    exact ⟨typeIs_str s z t, fun _ e => nomatch e⟩
  | int i =>
    obtain ⟨t, rfl⟩ := r
    cases (show T = "int" from ty)
    exact ⟨typeIs_int s i t, fun _ e => nomatch e⟩
  | ref p =>
    cases r
    rcases ty with ⟨rfl, xs, hq⟩ | ⟨rfl, o, hk, hc, hd⟩ | ⟨rfl, hk⟩ | ⟨rfl, S, n, hk⟩
    · obtain ⟨its, _, pl, _⟩ := I.list hq
      refine ⟨pl.isList.typeIs, fun a e => ?_⟩
      cases e
      obtain ⟨o, n, e, c, hd, _⟩ := pl
      exact ⟨o, e, hd⟩
    · refine ⟨⟨o, I.kIn p o hk, hc⟩, fun a e => ?_⟩
      cases e
      exact ⟨o, I.kIn _ o hk, hd⟩
    · have z : ∃ o, s.heap.get? p = some o ∧ o.ExactDict := by
        rcases hk with ⟨kvs, hk⟩ | ⟨kvs, hk⟩
        · obtain ⟨_, _, _, _, o, _, _, e, ex, _⟩ := I.hok p _ hk
          exact ⟨o, e, ex⟩
        · obtain ⟨_, _, _, _, o, _, _, e, ex, _⟩ := I.hok p _ hk
          exact ⟨o, e, ex⟩
      obtain ⟨o, e, ex⟩ := z
      refine ⟨⟨o, e, ex.1⟩, fun a e2 => ?_⟩
      cases e2
      exact ⟨o, e, ex.2.1⟩
    · obtain ⟨o, _, _, _, e, ex, _⟩ := I.hok p _ hk
      refine ⟨⟨o, e, ex.1⟩, fun a e2 => ?_⟩
      cases e2
      exact ⟨o, e, ex.2.1⟩
  | _ => exact False.elim ty
def tBM0 (K : PySem.W.Frag) (T : String) (r : V → List V → Hp → VK → Prop) (to : TE) : TE := fun σ H Q => to σ H fun x H1 => tyV K T x H1 ∧ r x [] H1 Q
def tBM (K : PySem.W.Frag) (T : String) (r : V → List V → Hp → VK → Prop) (to : TE) (t : TA) : TE := fun σ H Q => to σ H fun x H1 => tyV K T x H1 ∧ t σ H1 fun xs H2 => r x xs H2 Q
variable {o e : Expr} {es : List Expr} {to : TE} {t : TA} {name : Str} {apos cpos : Pos} {T id : String} {r : V → List V → Hp → VK → Prop}
theorem pe_bm0 (pa : PlainAttrs T) (slot : Slot T name id) (hty : typeOf (.builtin id) = pure (.type "method_descriptor")) (hm : MtR X id r) (ho : PE X o to)
    (hbase : attributeBase o name X.env (eval o X.env) = eval o X.env := by rfl) (hline : (apos.endLine == cpos.line) = true := by rfl) : PE X (.Call (.Attribute o name apos) [] [] cpos) (tBM0 X.K T r to) := by
  intro pins s σ H Q I h
  refine wpAny_Call_method0_late hbase hline (thn (ho pins s σ H _ I h) fun v s1 ⟨x, H1, I1, r1, ty, q1⟩ => ?_)
  obtain ⟨h1, h2⟩ := tyV_is I1 r1 ty
  exact ⟨T, id, pa, slot, hty, h1, h2, Calls.callWith_builtin rfl (PySem.evalArgs_none (hm pins s1 σ H1 x [] v [] Q I1 r1 .nil q1))⟩
theorem pe_bm (pa : PlainAttrs T) (slot : Slot T name id) (hty : typeOf (.builtin id) = pure (.type "method_descriptor")) (hm : MtR X id r) (ho : PE X o to) (ha : PA X (e :: es) t)
    (hbase : attributeBase o name X.env (eval o X.env) = eval o X.env := by rfl)
    (hfew : ((backTo cpos (starEach (e :: es) X.env)).all (fun x => !x.1) && (backToKw cpos (keywordEach [] X.env)).all (fun x => x.1.isSome)
      && decide ((e :: es).length + ([] : List Keyword).length + (if ([] : List Keyword).isEmpty then 0 else 1) < 30)) = true := by rfl)
    (hline : (apos.endLine == cpos.line) = true := by rfl) (hs : starEach (e :: es) X.env = (false, eval e X.env) :: starEach es X.env := by rfl) (hplain : (backTo cpos (starEach es X.env)).any (·.1) = false := by rfl) :
    PE X (.Call (.Attribute o name apos) (e :: es) [] cpos) (tBM X.K T r to t) := by
  intro pins s σ H Q I h
  refine wpAny_Call_method_late hbase hfew hline rfl (thn (ho pins s σ H _ I h) fun v s1 ⟨x, H1, I1, r1, ty, q1⟩ => ?_)
  obtain ⟨h1, h2⟩ := tyV_is I1 r1 ty
  refine ⟨T, id, pa, slot, hty, h1, h2, ?_⟩
  have hA := ha cpos pins s1 σ H1 _ I1 q1
  rw [hs] at hA ⊢
  refine Calls.callWith_builtin (by show (false || (backTo cpos (starEach es X.env)).any (·.1)) = false; rw [hplain] <;> rfl) (Calls.evalArgs_plain ?_)
  exact thn hA fun us s2 ⟨vs, H2, I2, r2, q2⟩ => hm pins s2 σ H2 x vs v us Q I2 r1 r2 q2
/- xs.append(e), list.index on a module's tuple .. are MtR facts of 06m -/
end
end L2

namespace L2
open PySem PySem.Spec PyProof.Rows

def MtM (X : Cx) (id : String) (r : V → List V → Hp → VK → Prop) : Prop :=
  ∀ (pins : List (Addr × Obj)) (s : Shared) (σ : St) (H : Hp) (x : V) (xs : List V) (v : Value) (us : List Value) (Q : VK), Inv X pins σ H s → RelV x v → Vals xs us → r x xs H Q →
    wpAny (model X.prog X.w) X.A (call (.builtin id) (v :: us)) (EP X pins σ Q) X.xe s

theorem Vals.one : ∀ {x : V} {us : List Value}, Vals [x] us → ∃ u, us = [u] ∧ RelV x u
  | _, _, .cons r .nil => ⟨_, rfl, r⟩
theorem Vals.two : ∀ {x y : V} {us : List Value}, Vals [x, y] us → ∃ u v, us = [u, v] ∧ RelV x u ∧ RelV y v
  | _, _, _, .cons r (.cons q .nil) => ⟨_, _, rfl, r, q⟩
theorem Vals.zero : ∀ {us : List Value}, Vals [] us → us = []
  | _, .nil => rfl
theorem Vals.dropLast {xs : List V} {us : List Value} (h : Vals xs us) : Vals xs.dropLast us.dropLast := by
  induction h with
  | nil => exact .nil
  | cons r t ih =>
    cases t with
    | nil => exact .nil
    | cons q t' => exact .cons r ih
theorem Vals.eraseIdx : ∀ {xs : List V} {us : List Value} (i : Nat), Vals xs us → Vals (xs.eraseIdx i) (us.eraseIdx i)
  | _, _, _, .nil => .nil
  | _, _, 0, .cons _ t => t
  | _, _, i + 1, .cons r t => .cons r (Vals.eraseIdx i t)
theorem Vals.reverse {xs : List V} {us : List Value} (h : Vals xs us) : Vals xs.reverse us.reverse := by
  induction h with
  | nil => exact .nil
  | cons r t ih => rw [List.reverse_cons, List.reverse_cons]; exact Vals.append ih (.cons r .nil)
theorem Vals.rep {xs : List V} {us : List Value} (h : Vals xs us) : ∀ k : Nat, Vals (List.replicate k xs).flatten (List.replicate k us).flatten
  | 0 => .nil
  | k + 1 => by
    rw [List.replicate_succ, List.replicate_succ, List.flatten_cons, List.flatten_cons]
    exact Vals.append h (Vals.rep h k)
theorem erase_last {α : Type} (l : List α) : l.eraseIdx (l.length - 1) = l.dropLast := by
  induction l with
  | nil => rfl
  | cons a r ih =>
    cases r with
    | nil => rfl
    | cons b r =>
      have e : (a :: b :: r).length - 1 = ((b :: r).length - 1) + 1 := by
        have h1 : (a :: b :: r).length = r.length + 2 := rfl
        have h2 : (b :: r).length = r.length + 1 := rfl
        omega
      rw [e, List.eraseIdx_cons_succ, ih]
      all_goals rfl
theorem len_erase {α : Type} : ∀ (l : List α) (i : Nat), (l.eraseIdx i).length ≤ l.length
  | [], _ => Nat.le_refl _
  | _ :: _, 0 => Nat.le_succ _
  | _ :: r, i + 1 => Nat.succ_le_succ (len_erase r i)
theorem foldl_rep (its : List Value) : ∀ (k : Nat) (acc : List Value),
    List.foldl (fun x1 x2 => x1 ++ x2) acc.toArray (List.replicate k its.toArray) = (acc ++ (List.replicate k its).flatten).toArray
  | 0, acc => by simp
  | k + 1, acc => by
    have e : acc.toArray ++ its.toArray = (acc ++ its).toArray := by simp
    have e2 : (acc ++ its) ++ (List.replicate k its).flatten = acc ++ (List.replicate (k + 1) its).flatten := by
      rw [List.replicate_succ, List.flatten_cons, List.append_assoc]
    rw [← e2, ← foldl_rep its k (acc ++ its), ← e, List.replicate_succ, List.foldl_cons]

section
variable {X : Cx} {pins : List (Addr × Obj)} {σ : St} {H : Hp} {s : Shared} {l b : Addr} {xs ys zs : List V}

theorem Inv.lset {its its' : List Value} {n : Nat} {f : Array Value → Array Value} {t' : Nat} (I : Inv X pins σ H s) (hH : H l = some (.lst xs))
    (e : s.heap.get? l = some { cls := .type "list", data := .seq its.toArray n }) (hf : f its.toArray = its'.toArray) (hv : Vals ys its') (hz : ys.length ≤ sizeLine) :
    Inv X pins σ (upd H l (.lst ys)) { s with heap := s.heap.update l (Obj.mapSeq f), toks := t' } := by
  have q := PySem.IsL.update e f
  rw [hf] at q
  refine I.write (x := l) (e := l) (by rw [hH]; exact trivial) (.inl rfl) (fun b' u hb hu => (Heap.get?_update_other s.heap (Obj.mapSeq f) (Ne.symm hb)).trans hu) ⟨_, q⟩ ?_
  exact ⟨hz, its', _, hv, q⟩
theorem Inv.lnew {its : List Value} {t' : Nat} (I : Inv X pins σ H s) (hv : Vals ys its) (hz : ys.length ≤ sizeLine) :
    Inv X pins σ (upd H s.heap.objs.size (.lst ys)) { s with heap := s.heap.push { cls := .type "list", data := .seq its.toArray }, toks := t' } :=
  I.laid (fun _ _ q => Heap.get?_push_of_some _ q) (Nat.le_refl _) ⟨hz, its, 0, hv, Heap.get?_push_size _ rfl⟩
theorem Inv.fresh (I : Inv X pins σ H s) : H s.heap.objs.size = none := I.hok.fresh (Nat.le_refl _)
theorem Inv.lstM (I : Inv X pins σ H s) (hH : H l = some (.lst xs)) : xs.length ≤ sizeLine ∧ ∃ (its : List Value) (n : Nat), Vals xs its ∧ xs.length = its.length ∧ s.heap.get? l = some { cls := .type "list", data := .seq its.toArray n } := by
  obtain ⟨z, its, n, r, e⟩ := I.hok l _ hH
  exact ⟨z, its, n, r, r.length, e⟩

theorem notLongL {n : Nat} (h : n ≤ sizeLine) : Builtin.List.listTooLong n = false := by
  unfold Builtin.List.listTooLong
  exact decide_eq_false (by omega)
end

section
variable {X : Cx}

def rAppend : V → List V → Hp → VK → Prop := fun x vs H Q => ∃ l xs y, x = .ref l ∧ vs = [y] ∧ H l = some (.lst xs) ∧ xs.length < sizeLine ∧ Q .non (upd H l (.lst (xs ++ [y])))
theorem mt_append : MtM X "list.append" rAppend := by
  intro pins s σ H x vs v us Q I rx rv h
  obtain ⟨l, xs, y, rfl, rfl, hH, hz, q⟩ := h
  cases rx
  obtain ⟨u, rfl, ru⟩ := rv.one
  obtain ⟨z, its, n, r, hl, e⟩ := I.lstM hH
  refine call_meets F.slot_list_append ⟨_, e, rfl⟩ F.entry_list_append (F.args_list_append_2 _ _) (PySem.list_append l its.toArray n u (by rw [List.size_toArray]; omega)) ⟨e, ?_⟩
  refine ⟨.non, _, I.lset (its' := its ++ [u]) hH e (by simp) (r.append (.cons ru .nil)) ?_, rfl, q⟩
  rw [List.length_append, List.length_singleton]
  omega

def rExtend : V → List V → Hp → VK → Prop := fun x vs H Q => ∃ l b xs zs, x = .ref l ∧ vs = [.ref b] ∧ H l = some (.lst xs) ∧ H b = some (.lst zs) ∧ xs.length + zs.length ≤ sizeLine ∧ Q .non (upd H l (.lst (xs ++ zs)))
theorem mt_extend : MtM X "list.extend" rExtend := by
  intro pins s σ H x vs v us Q I rx rv h
  obtain ⟨l, b, xs, zs, rfl, rfl, hH, hB, hz, q⟩ := h
  cases rx
  obtain ⟨u, rfl, ru⟩ := rv.one
  cases ru
  obtain ⟨z, its, n, r, hl, e⟩ := I.lstM hH
  obtain ⟨z2, its2, n2, r2, hl2, e2⟩ := I.lstM hB
  have hsz : its.toArray.size + its2.toArray.size ≤ sizeLine := by rw [List.size_toArray, List.size_toArray]; omega
  have hlong : ¬ (!its.toArray.isEmpty && Builtin.List.listTooLong (its.toArray.size + its2.toArray.size)) = true := by
    rw [notLongL hsz, Bool.and_false]
    exact Bool.false_ne_true
  refine call_meets F.slot_list_extend ⟨_, e, rfl⟩ F.entry_list_extend (F.args_list_extend_2 _ _)
    (AutoSeq1.list_extend_list_list_0 l its.toArray n b its2.toArray n2 hlong (by rw [List.size_toArray]; omega) (by omega)) ⟨e, e2, ?_⟩
  refine ⟨.non, _, I.lset (its' := its ++ its2) hH e (by simp) (r.append r2) ?_, rfl, q⟩
  rw [List.length_append]
  omega

def rPop : V → List V → Hp → VK → Prop := fun x vs H Q => ∃ l xs y, x = .ref l ∧ vs = [] ∧ H l = some (.lst xs) ∧ xs[xs.length - 1]? = some y ∧ Q y (upd H l (.lst xs.dropLast))
theorem mt_pop : MtM X "list.pop" rPop := by
  intro pins s σ H x vs v us Q I rx rv h
  obtain ⟨l, xs, y, rfl, rfl, hH, hy, q⟩ := h
  cases rx
  have hus := rv.zero
  subst hus
  obtain ⟨z, its, n, r, hl, e⟩ := I.lstM hH
  obtain ⟨u, hu, ru⟩ := r.get hy
  have hy' : its.toArray[its.toArray.size - 1]? = some u := by
    show its.toArray[its.length - 1]? = some u
    rw [← Array.getElem?_toList, ← hl]
    exact hu
  refine call_meets F.slot_list_pop ⟨_, e, rfl⟩ F.entry_list_pop (F.args_list_pop_1 _) (MeetsSeq.list_pop_last l its.toArray n u hy' (by rw [List.size_toArray]; omega)) ⟨e, ?_⟩
  refine ⟨y, _, I.lset (its' := its.dropLast) hH e ?_ r.dropLast ?_, ru, q⟩
  · show its.toArray.eraseIdxIfInBounds (its.toArray.size - 1) = its.dropLast.toArray
    rw [List.size_toArray, List.eraseIdxIfInBounds_toArray, erase_last]
  · rw [List.length_dropLast]
    omega

def rPopAt : V → List V → Hp → VK → Prop := fun x vs H Q => ∃ l xs i k y, x = .ref l ∧ vs = [.int i] ∧ H l = some (.lst xs) ∧ -(2 ^ 63) ≤ i ∧ i < 2 ^ 63 ∧ seqIndex? i xs.length = some k ∧ xs[k]? = some y ∧ Q y (upd H l (.lst (xs.eraseIdx k)))
theorem mt_popAt : MtM X "list.pop" rPopAt := by
  intro pins s σ H x vs v us Q I rx rv h
  obtain ⟨l, xs, i, k, y, rfl, rfl, hH, h1, h2, hk, hy, q⟩ := h
  cases rx
  obtain ⟨u, rfl, ru⟩ := rv.one
  obtain ⟨t, rfl⟩ := ru
  obtain ⟨z, its, n, r, hl, e⟩ := I.lstM hH
  obtain ⟨w, hw, rw'⟩ := r.get hy
  refine call_meets F.slot_list_pop ⟨_, e, rfl⟩ F.entry_list_pop (F.args_list_pop_2 _ _)
    (MeetsSeq.list_pop_at l its.toArray n i t k w (fitsIndex_both h1 h2) (by rw [List.size_toArray, ← hl]; exact hk) (by rw [← Array.getElem?_toList]; exact hw) (by rw [List.size_toArray]; omega)) ⟨e, ?_⟩
  refine ⟨y, _, I.lset (its' := its.eraseIdx k) hH e ?_ (r.eraseIdx k) ?_, rw', q⟩
  · show its.toArray.eraseIdxIfInBounds k = (its.eraseIdx k).toArray
    rw [List.eraseIdxIfInBounds_toArray]
  · have := len_erase xs k
    omega

def rReverse : V → List V → Hp → VK → Prop := fun x vs H Q => ∃ l xs, x = .ref l ∧ vs = [] ∧ H l = some (.lst xs) ∧ Q .non (upd H l (.lst xs.reverse))
theorem mt_reverse : MtM X "list.reverse" rReverse := by
  intro pins s σ H x vs v us Q I rx rv h
  obtain ⟨l, xs, rfl, rfl, hH, q⟩ := h
  cases rx
  have hus := rv.zero
  subst hus
  obtain ⟨z, its, n, r, hl, e⟩ := I.lstM hH
  refine call_meets F.slot_list_reverse ⟨_, e, rfl⟩ F.entry_list_reverse (F.args_list_reverse_1 _) (AutoSeq1.list_reverse_list_0 l its.toArray n (by rw [List.size_toArray]; omega)) ⟨e, ?_⟩
  refine ⟨.non, _, I.lset (its' := its.reverse) hH e (by simp) r.reverse ?_, rfl, q⟩
  rw [List.length_reverse]
  omega

def rClear : V → List V → Hp → VK → Prop := fun x vs H Q => ∃ l xs, x = .ref l ∧ vs = [] ∧ H l = some (.lst xs) ∧ Q .non (upd H l (.lst []))
theorem mt_clear : MtM X "list.clear" rClear := by
  intro pins s σ H x vs v us Q I rx rv h
  obtain ⟨l, xs, rfl, rfl, hH, q⟩ := h
  cases rx
  have hus := rv.zero
  subst hus
  obtain ⟨z, its, n, r, hl, e⟩ := I.lstM hH
  refine call_meets F.slot_list_clear ⟨_, e, rfl⟩ F.entry_list_clear (F.args_list_clear_1 _) (AutoSeq1.list_clear_list_0 l its.toArray n (by rw [List.size_toArray]; omega)) ⟨e, ?_⟩
  exact ⟨.non, _, I.lset (its' := []) (ys := []) hH e rfl .nil (Nat.zero_le _), rfl, q⟩

def rCat : R2 := fun x y H Q => ∃ l b xs zs, x = .ref l ∧ y = .ref b ∧ H l = some (.lst xs) ∧ H b = some (.lst zs) ∧ xs.length + zs.length ≤ sizeLine ∧ ∀ p, H p = none → Q (.ref p) (upd H p (.lst (xs ++ zs)))
theorem op_cat : OpR X (binaryOp .Add) rCat := by
  intro pins s σ H x y v u Q I rx ry h
  obtain ⟨l, b, xs, zs, rfl, rfl, hH, hB, hz, q⟩ := h
  cases rx
  cases ry
  obtain ⟨z, its, n, r, hl, e⟩ := I.lstM hH
  obtain ⟨z2, its2, n2, r2, hl2, e2⟩ := I.lstM hB
  refine PySem.P.add_list e e2 ?_ (by rw [List.size_toArray, List.size_toArray]; omega)
  have ea : its.toArray ++ its2.toArray = (its ++ its2).toArray := by simp
  rw [ea]
  exact ⟨.ref _, _, I.lnew (t' := s.toks) (r.append r2) (by rw [List.length_append]; omega), rfl, q _ I.fresh⟩
def rRep : R2 := fun x y H Q => ∃ l k xs, x = .ref l ∧ y = .int k ∧ H l = some (.lst xs) ∧ -(2 ^ 63) ≤ k ∧ k < 2 ^ 63 ∧ xs.length * k.toNat ≤ sizeLine ∧
  ∀ p, H p = none → Q (.ref p) (upd H p (.lst (List.replicate k.toNat xs).flatten))
theorem len_rep {α : Type} (xs : List α) (k : Nat) : (List.replicate k xs).flatten.length = k * xs.length := by
  induction k with
  | zero => simp
  | succ k ih => rw [List.replicate_succ, List.flatten_cons, List.length_append, ih, Nat.succ_mul, Nat.add_comm]
theorem op_rep : OpR X (binaryOp .Mult) rRep := by
  intro pins s σ H x y v u Q I rx ry h
  obtain ⟨l, k, xs, rfl, rfl, hH, h1, h2, hz, q⟩ := h
  cases rx
  obtain ⟨t, rfl⟩ := ry
  obtain ⟨z, its, n, r, hl, e⟩ := I.lstM hH
  have hlen : its.toArray.size * k.toNat ≤ sizeLine := by rw [List.size_toArray, ← hl]; exact hz
  have hcap : ¬ its.toArray.size * k.toNat > (2 ^ 63 - 1) / 8 := by
    have : (sizeLine : Nat) ≤ (2 ^ 63 - 1) / 8 := by decide
    omega
  have hfit : ¬ (!Builtin.List.listFitsIndex k) = true := by
    rw [fitsIndex_both h1 h2]
    exact Bool.false_ne_true
  have hlong : ¬ Builtin.List.listTooLong (its.toArray.size * k.toNat) = true := by
    rw [notLongL hlen]
    exact Bool.false_ne_true
  have hnew : List.foldl (fun x1 x2 => x1 ++ x2) #[] (List.replicate (if its.toArray.isEmpty = true then 0 else k.toNat) its.toArray) = (List.replicate k.toNat its).flatten.toArray := by
    have f0 : ∀ m : Nat, List.foldl (fun x1 x2 => x1 ++ x2) #[] (List.replicate m its.toArray) = (List.replicate m its).flatten.toArray := fun m => by
      have := foldl_rep its m []
      rw [List.nil_append] at this
      exact this
    rw [f0]
    cases its with
    | nil => simp
    | cons a r' => rw [if_neg (by simp)]
  refine wpAny_binaryOp_repeat_ref (T := "list") (U := "int") (by decide) ⟨_, e, rfl⟩ (fun s' => typeIs_int s' k t) noFill_list_mul F.fills_int_mul F.slot_int_rmul repeat_list F.slot_int_index.lookup
    (call_meets F.slot_int_rmul (typeIs_int s k t) F.entry_int_rmul (F.args_int_rmul_2 _ _) (int___rmul___int_list k t l its.toArray n)
      ⟨e, rfl, ⟨_, e, rfl⟩, call_meets F.slot_list_mul ⟨_, e, rfl⟩ F.entry_list_mul (F.args_list_mul_2 _ _) (AutoListH.list___mul___list_int_3 l its.toArray n k t hfit hcap hlong) ⟨e, ?_⟩⟩)
  rw [hnew]
  exact ⟨.ref _, _, I.lnew (t' := s.toks) (r.rep k.toNat) (by rw [len_rep, Nat.mul_comm]; exact hz), rfl, q _ I.fresh⟩

theorem del_list {pins : List (Addr × Obj)} {s : Shared} {σ : St} {H : Hp} {l : Addr} {xs : List V} {i : Int} {t : Tok} {k : Nat} {Q : Unit → Shared → Prop} (I : Inv X pins σ H s) (hH : H l = some (.lst xs))
    (h1 : -(2 ^ 63) ≤ i) (h2 : i < 2 ^ 63) (hk : seqIndex? i xs.length = some k) (h : ∀ s', Inv X pins σ (upd H l (.lst (xs.eraseIdx k))) s' → Q () s') :
    wpAny (model X.prog X.w) X.A (delItem (.ref l) (.int i t)) Q X.xe s := by
  obtain ⟨z, its, n, r, hl, e⟩ := I.lstM hH
  refine PySem.P.delItem_list (k := k) e (fitsIndex_both h1 h2) (by rw [List.size_toArray, ← hl]; exact hk) (h _ ?_) (by rw [List.size_toArray]; omega)
  refine I.lset (its' := its.eraseIdx k) (t' := s.toks) hH e ?_ (r.eraseIdx k) ?_
  · show its.toArray.eraseIdxIfInBounds k = (its.eraseIdx k).toArray
    rw [List.eraseIdxIfInBounds_toArray]
  · have := len_erase xs k
    omega
end

section
variable {prog : Program} {w : World} {A : Around} {E : Value → Shared → Prop} {s : Shared}
theorem splice_eq (its its2 : List Value) (a c : Nat) : its.toArray.extract 0 a ++ its2.toArray ++ its.toArray.extract c its.toArray.size = (its.take a ++ its2 ++ its.drop c).toArray := by
  apply Array.toList_inj.mp
  first
    | (simp
       exact List.take_of_length_le (by simp))
    | simp [List.take_of_length_le]
    | simp
theorem bounds_run {a c n : Nat} (hac : a ≤ c) (hc : c ≤ n) : sliceBounds (some (a : Int)) (some (c : Int)) none n = ((a : Int), (c : Int), 1) := by
  simp only [sliceBounds, Option.getD_none]
  have h1 : ¬ ((a : Int) < 0) := by omega
  have h2 : ¬ ((c : Int) < 0) := by omega
  simp only [h1, h2, if_false, show (1 : Int) > 0 by decide, if_true]
  congr 1
  · omega
  · congr 1; omega
set_option maxRecDepth 100000 in
theorem setItem_slice {l b sl : Addr} {items new : Array Value} {n n2 : Nat} {vl vu : Value} {a c : Nat} {Q : Unit → Shared → Prop}
    (e : s.heap.get? l = some { cls := .type "list", data := .seq items n }) (e2 : s.heap.get? b = some { cls := .type "list", data := .seq new n2 }) (hne : l ≠ b)
    (hs : s.heap.IsSliceOf sl vl vu .none) (pl : IsPart vl (some (a : Int))) (pu : IsPart vu (some (c : Int))) (hac : a ≤ c) (hc : c ≤ items.size)
    (hsz : items.size + new.size ≤ sizeLine) (h : Q () { s with heap := s.heap.update l (Obj.mapSeq fun xs => xs.extract 0 a ++ new ++ xs.extract c xs.size) }) :
    wpAny (model prog w) A (setItem (.ref l) (.ref sl) (.ref b)) Q E s := by
  have hl : s.heap.IsList l items := PySem.IsL.isList e
  have hb : s.heap.IsList b new := PySem.IsL.isList e2
  obtain ⟨os, hos, hcs, hds⟩ := id hs
  have hTs : s.TypeIs (.ref sl) "slice" := ⟨os, hos, hcs⟩
  have hstep : ¬ ((rawPart none == rawInt 0) = true) := Bool.false_ne_true
  have hsame : Builtin.List.listSameRef (.ref l) (.ref b) = false := by
    unfold Builtin.List.listSameRef
    exact beq_eq_false_iff_ne.mpr hne
  have hmax : (max (a : Int) (c : Int)).toNat = c := by omega
  have hz' : ((fun xs : Array Value => xs.extract 0 a ++ new ++ xs.extract c xs.size) items).size ≤ sizeLine + 1 := by
    simp only [Array.size_append, Array.size_extract]
    omega
  unfold setItem
  try with_reducible refine wpAny_holding ?_
  first | refine wpAny_bind (wpAny_pure ?_) | skip
  refine wpAny_bind (wpAny_sequenceKey hl.typeIs (by decide) ?_)
  refine wpAny_bind (wpAny_callSpecial?_slot (name := Str.ofString "__setitem__") hl.typeIs slot_list_setitem
    (wpAny_call_entry slot_list_setitem hl.typeIs entry_list_setitem ?_ (args_list_setitem _ _ _)))
  show wpAny _ _ (Builtin.List.listSubscript? (.ref sl) >>= _) _ _ s
  refine wpAny_bind ?_
  unfold Builtin.List.listSubscript?
  refine wpAny_bind (wpAny_specialOf hTs slice_no_index ?_)
  simp only [Option.isNone_none, if_true]
  refine wpAny_pure ?_
  show wpAny _ _ (typeOf (.ref sl) >>= _) _ _ s
  refine wpAny_bind (wpAny_typeOf hTs ?_)
  first
    | rw [if_neg (by decide)]
    | refine PySem.W.KFB.if_not (by decide) ?_
  rw [listSliceParts_eq]
  refine wpAny_bind (wpAny_bind (wpAny_field hos hds (x := .none) rfl (wpAny_bind (wpAny_listPart .none ?_))))
  rw [if_neg hstep]
  refine wpAny_bind (wpAny_field hos hds (x := vl) rfl (wpAny_bind (wpAny_listPart pl ?_)))
  refine wpAny_bind (wpAny_field hos hds (x := vu) rfl (wpAny_bind (wpAny_listPart pu (wpAny_pure ?_))))
  first
    | simp only [hsame, Bool.false_eq_true, if_false]
    | refine PySem.W.KFB.if_not hsame ?_
    | (dsimp only
       rw [if_neg (by rw [hsame]; exact Bool.false_ne_true)])
  refine wpAny_bind (m := Builtin.List.listAllItems (.ref b) "must assign iterable to extended slice") ?_
  unfold Builtin.List.listAllItems
  refine wpAny_bind (wpAny_typeOf hb.typeIs ?_)
  first
    | refine PySem.W.KFB.if_so (by decide) ?_
    | rw [if_pos (by decide)]
    | simp only [beq_self_eq_true, Bool.true_or, if_true]
  unfold Builtin.List.listItems
  refine wpAny_bind (wpAny_seqItems e2 rfl (wpAny_pure ?_))
  refine wpAny_bind (wpAny_bind (wpAny_seqItems e rfl (wpAny_pure ?_)))
  refine wpAny_bind (wpAny_of_eq ((sliceIndices_raw (some (a : Int)) (some (c : Int)) none items.size (by simp)).trans (congrArg (pure : Int × Int × Int → Sem (Int × Int × Int)) (bounds_run hac hc))) ?_)
  show wpAny _ _ (if ((1 : Int) == 1) = true then _ else _) _ _ s
  rw [if_pos (by decide)]
  refine wpAny_bind (wpAny_rule ?_)
  first
    | simp only [notLongL hsz, Bool.false_eq_true, if_false]
    | refine PySem.W.KFB.if_not (notLongL hsz) ?_
  first | refine wpAny_bind (wpAny_pure ?_) | skip
  show wpAny _ _ (updateSeq l (fun xs => xs.extract 0 ((a : Int)).toNat ++ new ++ xs.extract (max (a : Int) (c : Int)).toNat xs.size) >>= _) _ _ s
  rw [hmax, Int.toNat_natCast]
  refine wpAny_bind (wpAny_updateSeq (hz := Nat.le_trans (Nat.le_add_right _ _) hsz) (_hz' := hz') e rfl ?_)
  refine wpAny_bind (wpAny_letGo ?_)
  first
    | exact wpAny_bind (wpAny_pure (wpAny_pure ⟨.none, rfl, wpAny_pure h⟩))
    | exact wpAny_pure ⟨.none, rfl, wpAny_pure h⟩
end

section
variable {X : Cx}
theorem set_slice {pins : List (Addr × Obj)} {s : Shared} {σ : St} {H : Hp} {l b sl : Addr} {xs ys : List V} {a c : Int} {vl vu : Value} {Q : Unit → Shared → Prop} (I : Inv X pins σ H s)
    (hH : H l = some (.lst xs)) (hB : H b = some (.lst ys)) (hne : l ≠ b) (hs : s.heap.IsSliceOf sl vl vu .none) (ra : RelV (.int a) vl) (rc : RelV (.int c) vu) (h0 : 0 ≤ a) (hac : a ≤ c) (hc : c ≤ xs.length)
    (hz : xs.length + ys.length ≤ sizeLine) (h : ∀ s', Inv X pins σ (upd H l (.lst (xs.take a.toNat ++ ys ++ xs.drop c.toNat))) s' → Q () s') :
    wpAny (model X.prog X.w) X.A (setItem (.ref l) (.ref sl) (.ref b)) Q X.xe s := by
  obtain ⟨ta, rfl⟩ := ra
  obtain ⟨tc, rfl⟩ := rc
  obtain ⟨z, its, n, r, hl, e⟩ := I.lstM hH
  obtain ⟨z2, its2, n2, r2, hl2, e2⟩ := I.lstM hB
  obtain ⟨a', rfl⟩ := Int.eq_ofNat_of_zero_le h0
  obtain ⟨c', rfl⟩ := Int.eq_ofNat_of_zero_le (Int.le_trans h0 hac)
  simp only [Int.toNat_natCast] at h
  refine setItem_slice (a := a') (c := c') e e2 hne hs (.int _ _) (.int _ _) (by omega) (by rw [List.size_toArray]; omega) (by rw [List.size_toArray, List.size_toArray]; omega) (h _ ?_)
  refine I.lset (its' := its.take a' ++ its2 ++ its.drop c') (t' := s.toks) hH e ?_ (Vals.append (Vals.append (r.take _) r2) (r.drop _)) ?_
  · exact splice_eq its its2 a' c'
  · rw [List.length_append, List.length_append, List.length_take, List.length_drop]
    omega
end
end L2

namespace Att
open PySem PySem.W PySem.Calls PyProof.Rows

theorem ints_of_wellAll {P : Params} {h : Heap} : ∀ (ns : List Int) (vs : List Value), WellAll P h vs (ns.map WData.int) → IntsAre vs ns := by
  intro ns
  induction ns with
  | nil =>
    intro vs w
    rw [List.map_nil] at w
    cases w
    exact .nil
  | cons n ns ih =>
    intro vs w
    rw [List.map_cons] at w
    cases w with
    | cons a b =>
      cases a
      exact .cons _ _ (ih _ b)

theorem script_of {l : OpenLaw} {n : Nat} (hn : l.most = some n) {P : Params} {h : Heap} {args : List WData} {vals : List Value}
    (hpre : l.row.toRowW.claim.pre args = true) (hwl : WellAll P h vals args) :
    ∃ a vs ns, vals = [Value.ref a] ∧ args = [WData.list (ns.map WData.int)] ∧ h.get? a = some { cls := .type "list", data := .seq vs.toArray } ∧ IntsAre vs ns ∧ ns.length ≤ n := by
  have hsh : WShape.hasAll [] args [.list .int] = true := (pre_splitW hpre).1
  have hc : l.pre.holds [] { args := args } = true := (pre_splitW hpre).2
  obtain ⟨d, r, rfl, h1, h2⟩ := hasAllW_cons hsh
  obtain rfl := hasAllW_nil h2
  obtain ⟨xs, rfl, h3⟩ := hasW_list h1
  obtain ⟨ns, rfl⟩ := items_int h3
  have hlen : ns.length ≤ n := by
    unfold OpenLaw.pre at hc
    have h4 : (WTm.not (.lt (.lit (.int (n : Int))) (.len (.arg 0)))).holds [] { args := [.list (ns.map .int)] } = true := by
      have h4 := (holds_andW hc).1
      rw [hn] at h4
      exact h4
    have h5 := condW_of h4 (w_not (w_lt w_lit (w_len_list (w_arg rfl))))
    rw [List.length_map] at h5
    refine Nat.le_of_not_lt fun q => ?_
    have q' : (n : Int) < ((ns.length : Nat) : Int) := by omega
    first
      | (rw [decide_eq_true q'] at h5; exact absurd h5 (by decide))
      | (simp at h5; omega)
  cases hwl with
  | cons w1 w2 =>
    cases w2
    cases w1 with
    | list ho hall => exact ⟨_, _, ns, rfl, rfl, ho, ints_of_wellAll ns _ hall, hlen⟩

theorem post_true (l : OpenLaw) (args : List WData) : l.row.toRowW.claim.post args (.bool true) args = true :=
  postW_of (r := l.row.toRowW) (X := (true == true))
    (show WShape.has [] (.bool true) .bool = true by first | rfl | decide | simp [WShape.has, WShape.arms, WShape.armsAll])
    (show (WTm.eq .res (.lit (.bool true))).value [] { args := args, res := some (.bool true), after := args } = some (.bool (true == true)) from w_eq_bool (w_res rfl) w_lit) rfl

theorem attach {l : OpenLaw} {n : Nat} {q : Program} {loose : List Str} {XP : (Str → Option Value) → Heap → Prop} {YP : World → Heap → Prop} {d : DefRec} {x : Str}
    (hn : l.most = some n) (hdf : d.params.defaults = [])
    (hbind : ∀ pm cd doc v : Value, bindArgs (docDef d.name d.params d.body d.scope pm cd doc) ⟨[v], []⟩ = pure [(x, v)])
    (hx : d.scope.names.lookup x = some .local ∨ d.scope.names.lookup x = some .cell)
    (hk : d.scope.kind = .function) (hco : d.scope.isCoroutine = false) (hgen : d.scope.isGenerator = false)
    (body : ∀ (w : World) (s₀ s₁ s : Shared) (mg mb : Str → Option Value) (fa : Addr) (o : Obj) (pm cd doc : Value) (a : Addr) (vs : List Value) (ns : List Int),
      Ground q loose [] XP w s₀ mg mb s₁.heap → YP w s₁.heap →
      s₁.heap.get? fa = some o → o.data = .func (docDef d.name d.params d.body d.scope pm cd doc) → s₁.heap.CodeRec cd d.name → mg d.name = some (.ref fa) →
      s₁.heap.get? a = some { cls := .type "list", data := .seq vs.toArray } → IntsAre vs ns → ns.length ≤ n →
      s.gens = #[] → s.os = s₁.os →
      Fr s₁.heap s₁.heap.objs.size s.heap (bindL (envOfC d.name d.scope s₁.heap.objs.size fa cd).kindOf [(x, .ref a)] fun _ => none) →
      Cl s₁.heap.objs.size (cellsFrom (s₁.heap.objs.size + 1) d.scope.names []) s.heap (bindC (envOfC d.name d.scope s₁.heap.objs.size fa cd).kindOf [(x, .ref a)] fun _ => none) →
      wpAny (model l.prog w) (callerA.deeper (envOfC d.name d.scope s₁.heap.objs.size fa cd)) (execs d.body (envOfC d.name d.scope s₁.heap.objs.size fa cd))
        (fun f s' => f = .ret (.bool true) ∧ OldK s₁.heap s'.heap ∧ s'.os = s₁.os ∧ AllBare s'.gens) (fun _ _ => False) s) :
    WalkO q loose XP YP l.row.toRowW d [] (fun f vs => PySem.call f vs) := by
  intro w s₀ s₁ mg mb G Y fa o pm cd doc dV kV ho hd hcd hD hmg hg args vals as hpre hlay hrd hwl hlo
  obtain rfl : dV = .none := Dflts.none hD hdf
  obtain rfl : kV = .none := Dflts.noKw hD
  obtain ⟨a, vs, ns, rfl, rfl, hobj, hints, hlen⟩ := script_of hn hpre hwl
  refine enter_call ?_
  refine call_cells_ret (o := o) (by rw [depth_caller]; decide) ho (fd_plain hd) G.T.nolimit hcd (hbind pm cd doc (.ref a)) (fun y hy => ?_) (fun h₁ tk F X => ?_) hco hgen hk
  · obtain rfl : y = (x, Value.ref a) := List.mem_singleton.mp hy
    rcases hx with e | e
    · exact .inl e
    · exact .inr ⟨e, cellsFrom_some _ _ _ (.inl e)⟩
  · refine wpAny_mono (body w s₀ s₁ { s₁ with heap := h₁, toks := tk } mg mb fa o pm cd doc a vs ns G Y ho (fd_plain hd) hcd hmg hobj hints hlen hg rfl F X) (fun f s' hq => ?_) (fun _ _ hq => hq)
    obtain ⟨rfl, h2, h3, h4⟩ := hq
    exact ⟨.inl ⟨.bool true, .bool true, [], rfl, fun _ => rfl, .bool true, post_true l _, fun _ => ⟨List.Pairwise.nil, fun _ hm => (nomatch hm)⟩⟩, h2, h3, h4⟩

theorem attach_call {l : OpenLaw} {n : Nat} {q : Program} {loose : List Str} {XP : (Str → Option Value) → Heap → Prop} {YP : World → Heap → Prop} {d : DefRec}
    (hn : l.most = some n) (hdf : d.params.defaults = [])
    (call : ∀ (w : World) (s₀ s₁ : Shared) (mg mb : Str → Option Value) (fa : Addr) (o : Obj) (pm cd doc : Value) (a : Addr) (vs : List Value) (ns : List Int),
      Ground q loose [] XP w s₀ mg mb s₁.heap → YP w s₁.heap →
      s₁.heap.get? fa = some o → o.data = .func (docDef d.name d.params d.body d.scope pm cd doc) → s₁.heap.CodeRec cd d.name → mg d.name = some (.ref fa) →
      s₁.heap.get? a = some { cls := .type "list", data := .seq vs.toArray } → IntsAre vs ns → ns.length ≤ n → s₁.gens = #[] →
      codeAny (model l.prog w) callerA (.call (.ref fa) ⟨[.ref a], []⟩) (fun r s' => r = .ok (.ret (.bool true)) ∧ OldK s₁.heap s'.heap ∧ s'.os = s₁.os ∧ AllBare s'.gens) s₁) :
    WalkO q loose XP YP l.row.toRowW d [] (fun f vs => PySem.call f vs) := by
  intro w s₀ s₁ mg mb G Y fa o pm cd doc dV kV ho hd hcd hD hmg hg args vals as hpre hlay hrd hwl hlo
  obtain rfl : dV = .none := Dflts.none hD hdf
  obtain rfl : kV = .none := Dflts.noKw hD
  obtain ⟨a, vs, ns, rfl, rfl, hobj, hints, hlen⟩ := script_of hn hpre hwl
  refine enter_call (codeAny_mono (call w s₀ s₁ mg mb fa o pm cd doc a vs ns G Y ho (fd_plain hd) hcd hmg hobj hints hlen hg) fun r s' hq => ?_)
  obtain ⟨rfl, h2, h3, h4⟩ := hq
  exact ⟨.inl ⟨.bool true, .bool true, [], rfl, fun _ => rfl, .bool true, post_true l _, fun _ => ⟨List.Pairwise.nil, fun _ hm => (nomatch hm)⟩⟩, h2, h3, h4⟩

theorem attachN {l : OpenLaw} {n : Nat} {q : Program} {loose : List Str} {XP : (Str → Option Value) → Heap → Prop} {YP : World → Heap → Prop} {d : DefRec} {x : Str}
    (hn : l.most = some n) (hdf : d.params.defaults = [])
    (hbind : ∀ pm cd doc v : Value, bindArgs (docDef d.name d.params d.body d.scope pm cd doc) ⟨[v], []⟩ = pure [(x, v)])
    (hx : d.scope.names.lookup x = some .local ∨ d.scope.names.lookup x = some .cell)
    (hk : d.scope.kind = .function) (hco : d.scope.isCoroutine = false) (hgen : d.scope.isGenerator = false)
    (body : ∀ (w : World) (s₀ s₁ s : Shared) (mg mb : Str → Option Value) (fa : Addr) (o : Obj) (pm cd doc : Value) (a : Addr) (vs : List Value) (ns : List Int),
      Ground q loose [] XP w s₀ mg mb s₁.heap → YP w s₁.heap →
      s₁.heap.get? fa = some o → o.data = .func (docDef d.name d.params d.body d.scope pm cd doc) → s₁.heap.CodeRec cd d.name → mg d.name = some (.ref fa) →
      s₁.heap.get? a = some { cls := .type "list", data := .seq vs.toArray } → IntsAre vs ns → ns.length ≤ n →
      s.gens = #[] → s.os = s₁.os →
      Fr s₁.heap s₁.heap.objs.size s.heap (bindL (envOfC d.name d.scope s₁.heap.objs.size fa cd).kindOf [(x, .ref a)] fun _ => none) →
      Cl s₁.heap.objs.size (cellsFrom (s₁.heap.objs.size + 1) d.scope.names []) s.heap (bindC (envOfC d.name d.scope s₁.heap.objs.size fa cd).kindOf [(x, .ref a)] fun _ => none) →
      wpAny (model l.prog w) (callerA.deeper (envOfC d.name d.scope s₁.heap.objs.size fa cd)) (execs d.body (envOfC d.name d.scope s₁.heap.objs.size fa cd))
        (fun f s' => f = .ret (.bool true) ∧ (∀ b o, s₁.heap.get? b = some o → s'.heap.get? b = some o) ∧ s'.os = s₁.os ∧ s'.gens = #[]) (fun _ _ => False) s) :
    WalkN q loose XP YP l.row.toRowW d [] (fun f vs => PySem.call f vs) := by
  intro w s₀ s₁ mg mb G Y fa o pm cd doc dV kV ho hd hcd hD hmg hg args vals as hpre hlay hrd hwl hlo
  obtain rfl : dV = .none := Dflts.none hD hdf
  obtain rfl : kV = .none := Dflts.noKw hD
  obtain ⟨a, vs, ns, rfl, rfl, hobj, hints, hlen⟩ := script_of hn hpre hwl
  refine enter_callW ?_
  refine call_cells_ret (o := o) (by rw [depth_caller]; decide) ho (fd_plain hd) G.T.nolimit hcd (hbind pm cd doc (.ref a)) (fun y hy => ?_) (fun h₁ tk F X => ?_) hco hgen hk
  · obtain rfl : y = (x, Value.ref a) := List.mem_singleton.mp hy
    rcases hx with e | e
    · exact .inl e
    · exact .inr ⟨e, cellsFrom_some _ _ _ (.inl e)⟩
  · refine wpAny_mono (body w s₀ s₁ { s₁ with heap := h₁, toks := tk } mg mb fa o pm cd doc a vs ns G Y ho (fd_plain hd) hcd hmg hobj hints hlen hg rfl F X) (fun f s' hq => ?_) (fun _ _ hq => hq)
    obtain ⟨rfl, h2, h3, h4⟩ := hq
    exact ⟨.inl ⟨.bool true, .bool true, [], rfl, fun _ => rfl, .bool true, post_true l _, fun _ => ⟨List.Pairwise.nil, fun _ hm => (nomatch hm)⟩⟩, h2, h3, h4⟩

section
variable {prog : Program} {w : World} {A : Around} {E : Value → Shared → Prop} {s : Shared} {K : Frag}

theorem call_fn {R : Result → Shared → Prop} {name qual : Str} {params : Arguments} {body : List Stmt} {scope : Scope} {dV kV doc pm cdv ct oc : Value} {an od : Option Addr} {osl : Array (Option Value)} {f : Addr} {args : Args} {binds : List (Str × Value)}
    (X : K.In s.heap) (hlim : s.heap.NoLimit) (ho : K.lookup f = some ⟨oc, od, .func (fnOf name qual params body scope dV kV doc pm an cdv ct), osl⟩) (hcd : codeIn K cdv qual = true) (hroom : A.depth < recursionLimit)
    (hbind : BindsTo s (fnOf name qual params body scope dV kV doc pm an cdv ct) args binds)
    (hkind : (binds.all fun y => scope.names.lookup y.1 == some .local || scope.names.lookup y.1 == some .cell) = true)
    (h : ∀ s₁, InCallC s s.heap.objs.size (bindL (envOfC qual scope s.heap.objs.size f cdv).kindOf binds fun _ => none) (cellsFrom (s.heap.objs.size + 1) scope.names [])
        (bindC (envOfC qual scope s.heap.objs.size f cdv).kindOf binds fun _ => none) s₁ →
      wpAny (model prog w) (A.deeper (envOfC qual scope s.heap.objs.size f cdv)) (execs body (envOfC qual scope s.heap.objs.size f cdv))
        (fun fl s' => R (.ok (.ret (match fl with | .ret v => v | _ => .none))) s')
        (fun e s' => wpAny (model prog w) (A.deeper (envOfC qual scope s.heap.objs.size f cdv)) (leaving (envOfC qual scope s.heap.objs.size f cdv) e) (fun _ s'' => R (.error e) s'') (fun e' s'' => R (.error e') s'') s') s₁)
    (hco : scope.isCoroutine = false) (hgen : scope.isGenerator = false) (hk : scope.kind = .function) : codeAny (model prog w) A (.call (.ref f) args) R s := by
  refine codeAny_call_function hroom (X _ _ ho) rfl hco hgen rfl (codeRec_of X hcd) (hbind _ _ _ _ ?_)
  refine wpAny_newFunctionEnv_cells hk (kindsX hkind _) fun env he s₁ x => ?_
  subst he
  exact ⟨hlim.keeps x.toInCall.keep, codeAny_func (h s₁ x)⟩

theorem make_obj {R : Result → Shared → Prop} {C fI : Addr} {rest : List Value} {kw : List (Str × Value)}
    (X : K.In s.heap) (hm : makesIn K C = true) (hi : findIn K (.ref C) "__init__" = some (some (.ref fI))) (hf : isFn K (.ref fI) = true)
    (h : codeAny (model prog w) (A.under (.builtin "type.__call__" ⟨.ref C :: rest, kw⟩)) (.call (.ref fI) ⟨.ref (s.heap.objs.size + 1) :: rest, kw⟩) (InitBack (s.heap.objs.size + 1) R)
      { s with heap := (s.heap.push emptyDict).push (instObj C s.heap.objs.size) }) : codeAny (model prog w) A (.call (.ref C) ⟨rest, kw⟩) R s := by
  obtain ⟨hh, g, d, t, os⟩ := s
  exact make_core (makes_of X hm) (looks_findIn X hi) (fun self => bind_fn X self (beq_iff_eq.mp hf)) (.inl rfl) h

theorem get_field {x C : Addr} {ox : Obj} {es : List DictEntry} {n : Nat} {name : Str} {expr : Bool} {v : Value} {Q : Value → Shared → Prop}
    (X : K.In s.heap) (I : PySem.W.InstAt s.heap x ox C (some (dictOf es n))) (hg : plainGet K C name = true) (hh : hasDictIn K C = true) (ha : findIn K (.ref C) name = some none)
    (hl : getL name es = some (some v)) (hv : handedIn v = true) (h : Q v { s with toks := s.toks + 1 }) : wpAny (model prog w) A (getAttr (.ref x) name expr) Q E s :=
  get_value X I (plainGet_of hg).1 (findObj_own hh ha rfl hl) hv h

theorem get_method {x C f : Addr} {ox : Obj} {es : List DictEntry} {n : Nat} {name : Str} {pl : Sem Bool} {Q : Value × List Value → Shared → Prop}
    (X : K.In s.heap) (I : PySem.W.InstAt s.heap x ox C (some (dictOf es n))) (hg : plainGet K C name = true) (hf : findIn K (.ref C) name = some (some (.ref f))) (ht : isFn K (.ref f) = true)
    (hl : getL name es = some none) (h : Q (.ref f, [.ref x]) s) : wpAny (model prog w) A (getMethod (.ref x) name pl) Q E s :=
  method_fn X I (plainGet_of hg).1 (plainGet_of hg).2 hf (beq_iff_eq.mp ht) (by show (lookIn name (dictOf es n)).map _ = _; rw [lookIn_dict, hl]; rfl) h

def noObjs (h : Heap) : Heap := { h with objs := #[] }
theorem noObjs_get (h : Heap) (b : Addr) : (noObjs h).get? b = none := by
  cases e : (noObjs h).get? b with
  | none => rfl
  | some o => exact absurd (Heap.lt_size e) (Nat.not_lt_zero _)
def ledger (h : Heap) (L d : Addr) : List (Addr × Obj) := (List.range h.objs.size).filterMap fun a => if a = L ∨ a = d then none else (h.get? a).map fun o => (a, o)
theorem mem_ledger {h : Heap} {L d a : Addr} {o : Obj} : (a, o) ∈ ledger h L d ↔ a ≠ L ∧ a ≠ d ∧ h.get? a = some o := by
  unfold ledger
  rw [List.mem_filterMap]
  constructor
  · rintro ⟨b, _, e⟩
    split at e
    · cases e
    · rename_i hb
      obtain ⟨o', ho, e'⟩ := Option.map_eq_some_iff.mp e
      cases e'
      exact ⟨fun q => hb (.inl q), fun q => hb (.inr q), ho⟩
  · rintro ⟨n1, n2, ho⟩
    refine ⟨a, List.mem_range.mpr (Heap.lt_size ho), ?_⟩
    rw [if_neg (show ¬ (a = L ∨ a = d) from fun q => q.elim n1 n2), ho] <;> rfl
theorem news_ledger {h : Heap} {L d : Addr} {od : Obj} (hne : d ≠ L) (ho : h.get? d = some od) : News (noObjs h) L h ([] ++ (d, od) :: ledger h L d) := by
  rintro ⟨a, o⟩ hp
  rcases List.mem_cons.mp hp with e | hp
  · cases e
    exact ⟨ho, hne, noObjs_get _ _⟩
  · obtain ⟨n1, n2, e⟩ := mem_ledger.mp hp
    exact ⟨e, n1, noObjs_get _ _⟩
theorem fr_all {h : Heap} {L : Addr} {m : Str → Option Value} (n : h.Ns L m) : Fr (noObjs h) L h m :=
  ⟨n, fun b o e => (by rw [noObjs_get] at e; cases e), Nat.zero_le _⟩
theorem upd_ledger {h : Heap} {L d : Addr} {o o' : Obj} : Upd d o o' ((d, o) :: ledger h L d) ((d, o') :: ledger h L d) :=
  .head fun ⟨_, _⟩ hp => (mem_ledger.mp hp).2.1

theorem set_field {x C dx L : Addr} {ox : Obj} {m : Str → Option Value} {es es' : List DictEntry} {n n' : Nat} {name : Str} {v : Value} {Q : Unit → Shared → Prop}
    (X : K.In s.heap) (I : PySem.W.InstAt s.heap x ox C (some (dictOf es n))) (hd : ox.dict = some dx) (hL : s.heap.Ns L m) (hne : dx ≠ L)
    (hs : findIn K (.ref C) "__setattr__" = some (some (.builtin "object.__setattr__"))) (hp : plainOver K C = true) (ht : takerIn K C name = some none) (hh : hasDictIn K C = true) (hl : (getL name es).isSome = true)
    (e : (putL name (PyData.keyHash w.params name) (.str name (s.toks + 1)) v es, putN name es n) = (es', n')) (hz : es'.length ≤ 1000)
    (h : ∀ h' : Heap, h'.Ns L m → h'.get? dx = some (dictOf es' n') → (∀ b o, b ≠ dx → b ≠ L → s.heap.get? b = some o → h'.get? b = some o) → Q () { s with heap := h', toks := s.toks + 2 }) :
    wpAny (model prog w) A (setAttr (.ref x) name v) Q E s := by
  obtain ⟨e1, e2⟩ := Prod.mk.inj e
  have hdx : s.heap.get? dx = some (dictOf es n) := by
    have := I.dict
    rw [hd] at this
    exact this
  refine set_plain X I hs (osa_dict (s := { s with toks := s.toks + 1 }) (h₀ := noObjs s.heap) (L := L) (m := m) (od := dictOf es n) (od' := dictOf es' n') (es := es') (n := n') (pre := []) (post := ledger s.heap L dx)
    (fr_all hL) (news_ledger hne hdx) X I hd hp ht hh hl (fun _ q => nomatch q) (fun ⟨_, _⟩ q => (mem_ledger.mp q).2.1) (by rw [putName_dict, e1, e2]) rfl hz fun h' F' N' => ?_)
  exact h h' F'.ns (N'.get (List.Mem.head _)) fun b o n1 n2 ho => N'.get (List.Mem.tail _ (mem_ledger.mpr ⟨n2, n1, ho⟩))
end
end Att

namespace L2
open PySem PySem.Spec PyProof.Rows

theorem vals_ints : ∀ {vs : List Value} {ns : List Int}, IntsAre vs ns → Vals (ns.map V.int) vs
  | _, _, .nil => .nil
  | _, _, .cons n t h => .cons ⟨t, rfl⟩ (vals_ints h)

def Only (H : Hp) : Prop := ∀ b, H b = none ∨ ∃ o xs, H b = some (.frz o (.lst xs))

theorem law_call {P : Program} {w : World} {K : PySem.W.Frag} {mg mb : Str → Option Value} {CX : CXT} {k : Nat} {fa a : Addr} {fd : FuncData} {x : Str} {sp : Sp} {s₁ : Shared} {vs : List Value} {ns : List Int}
    (KX : K.In s₁.heap) (hns : s₁.heap.Ns mainGlobals mg) (hb : s₁.heap.Ns builtinsNs mb) (hbb : ∀ x : Str, x ≠ "__name__" → mb x = bootBuiltins x) (hlim : s₁.heap.NoLimit) (hg : s₁.gens = #[])
    (ha : s₁.heap.get? a = some { cls := .type "list", data := .seq vs.toArray }) (hi : IntsAre vs ns) (hl : ns.length ≤ sizeLine) (hr : Room k callerA)
    (F : ∀ base : Heap, K.In base → base.Ns mainGlobals mg → FnOk P w K mg base CX k fa fd [x] sp) (hbind : ∀ (s : Shared) (u : Value), BindsTo s fd ⟨[u], []⟩ [(x, u)])
    (hsp : ∀ H : Hp, Only H → SqL K H a (ns.map V.int) → sp [.ref a] H (fun v _ => v = .bl true) fun _ _ _ => False)
    (hCX : ∀ H e s', CX [] H s₁ (fun _ _ _ => False) e s' → False) :
    codeAny (model P w) callerA (.call (.ref fa) ⟨[.ref a], []⟩) (fun r s' => r = .ok (.ret (.bool true)) ∧ OldK s₁.heap s'.heap ∧ s'.os = s₁.os ∧ AllBare s'.gens) s₁ := by
  have rv := vals_ints hi
  have lenV := hi.length
  -- from an abstract heap in which nothing but the script may be tracked
  have core : ∀ H : Hp, Only H → SqL K H a (ns.map V.int) → HOk P w H s₁.heap → (∀ b, H b ≠ none → b = a) → (H a ≠ none → K.lookup a = none) →
      codeAny (model P w) callerA (.call (.ref fa) ⟨[.ref a], []⟩) (fun r s' => r = .ok (.ret (.bool true)) ∧ OldK s₁.heap s'.heap ∧ s'.os = s₁.os ∧ AllBare s'.gens) s₁ := by
    intro H hO hS hok hA hK
    have base_of : ∀ {b : Addr} {o : Obj}, s₁.heap.get? b = some o → H b = none → (hidT s₁.heap H).get? b = some o := fun e n => hidT_get e n
    have noA : ∀ {b : Addr} {o : Obj} {es : Array DictEntry} {ep : Nat}, s₁.heap.get? b = some o → o.data = .dict es ep → H b = none := fun {b o es ep} e d => by
      cases q : H b with
      | none => rfl
      | some u =>
        have e' : b = a := hA b (by rw [q]; simp)
        subst e'
        rw [ha] at e; cases e
        have d' : Data.seq vs.toArray _ = Data.dict es ep := d
        cases d'
    have nsK : ∀ {b : Addr} {m : Str → Option Value}, s₁.heap.Ns b m → (hidT s₁.heap H).Ns b m := fun {b m} ⟨o, es, ep, e, d, r⟩ => ⟨o, es, ep, base_of e (noA e d), d, r⟩
    have hKb : K.In (hidT s₁.heap H) := fun b o e => base_of (KX b o e) (by
      cases q : H b with
      | none => rfl
      | some u =>
        have e' : b = a := hA b (by rw [q]; simp)
        subst e'
        rw [hK (by rw [q]; simp)] at e; cases e)
    have hM : Mod K mg (hidT s₁.heap H) := ⟨hKb, nsK hns, ⟨mb, nsK hb, hbb⟩, let ⟨mc, h1, h2⟩ := hlim; ⟨mc, nsK h1, h2⟩⟩
    have e0 : Env0 P w K mg (hidT s₁.heap H) callerA [] s₁ H := ⟨rfl, hM, fun b o e => of_hidT e, Nat.le_of_eq (hidT_size _ _), trivial, fun b hb => absurd (show b ∈ ([] : List Addr) from hb) (by simp), hok, .of_eq hg⟩
    refine codeAny_mono ((F _ hKb (nsK hns)).run callerA [] s₁ H ⟨[.ref a], []⟩ [.ref a] [.ref a] _ _ hr e0 (hbind s₁ (.ref a)) (.cons rfl .nil) (hsp H hO hS)) fun r s' h => ?_
    cases r with
    | error e => exact (hCX H e s' h).elim
    | ok fl =>
      cases fl with
      | next => exact False.elim h
      | brk => exact False.elim h
      | cont => exact False.elim h
      | ret u =>
        obtain ⟨v, H', os, bare, un, hok', r', q⟩ := h
        have q' : v = .bl true := q
        subst q'
        obtain rfl : u = Value.bool true := r'
        refine ⟨rfl, OldK.of_keep fun b o e => ?_, os, bare⟩
        cases q : H b with
        | none => exact un.keep b o e q (by intro z; exact absurd (show b ∈ ([] : List Addr) from z) (by simp)) (by simp)
        | some u =>
          rcases hO b with z | ⟨ob, xs, z⟩
          · rw [q] at z; cases z
          · have z2 := un.frzs b ob _ z
            obtain ⟨e1, _⟩ := hok b _ z
            obtain ⟨e2, _⟩ := hok' b _ z2
            rw [e] at e1; cases e1
            exact e2
  cases hk : K.lookup a with
  | some o =>
    -- the script is one of the module's own objects
    have e := KX a o hk
    rw [ha] at e
    cases e
    refine core (fun _ => none) (fun _ => .inl rfl) (.inr ⟨_, vs.toArray, _, hk, rfl, rfl, rfl, by rw [List.size_toArray, lenV]; exact hl, by simpa using rv⟩) (fun b u z => by have z' : (none : Option HO) = some u := z; cases z') (fun b z => absurd rfl z) fun z => absurd rfl z
  | none =>
    refine core (fun b => if b = a then some (.frz { cls := .type "list", data := .seq vs.toArray } (.lst (ns.map V.int))) else none) (fun b => ?_) (.inl (.inr ⟨{ cls := .type "list", data := .seq vs.toArray }, if_pos rfl⟩)) (fun b u z => ?_) (fun b z => ?_) fun _ => hk
    · by_cases hb : b = a
      · exact .inr ⟨_, _, if_pos hb⟩
      · exact .inl (if_neg hb)
    · by_cases hb : b = a
      · have z' := (if_pos hb).symm.trans z
        cases z'
        subst hb
        exact ⟨ha, by rw [List.length_map]; exact hl, vs, _, rv, ha⟩
      · have z' := (if_neg hb).symm.trans z
        cases z'
    · by_cases hb : b = a
      · exact hb
      · exact absurd (if_neg hb) z
end L2

namespace L2
open PySem PySem.Spec PyProof.Rows

abbrev KOf {K : PySem.W.Frag} {h : Heap} (_ : K.In h) : PySem.W.Frag := K

theorem walk_of {l : PySem.W.OpenLaw} {n k : Nat} {q : Program} {loose : List Str} {XP : (Str → Option Value) → Heap → Prop} {YP : World → Heap → Prop} {d : DefRec} {K : Params → PySem.W.Frag} {CX : World → CXT} {sp : World → Sp} {x : Str}
    (hn : l.most = some n) (hn2 : n ≤ sizeLine) (hdf : d.params.defaults = []) (hr : Room k callerA)
    (hY : ∀ (w : World) (h : Heap), YP w h → (K w.params).In h)
    (F : ∀ (w : World) (mg : Str → Option Value) (fa : Addr) (h : Heap), (K w.params).In h → h.Ns mainGlobals mg → mg d.name = some (.ref fa) →
      ∃ fd : FuncData, (∀ (s : Shared) (u : Value), BindsTo s fd ⟨[u], []⟩ [(x, u)]) ∧
        ∀ base : Heap, (K w.params).In base → base.Ns mainGlobals mg → FnOk l.prog w (K w.params) mg base (CX w) k fa fd [x] (sp w))
    (hsp : ∀ (w : World) (H : Hp) (a : Addr) (ns : List Int), ns.length ≤ n → Only H → SqL (K w.params) H a (ns.map V.int) → sp w [.ref a] H (fun v _ => v = .bl true) fun _ _ _ => False)
    (hCX : ∀ (w : World) (H : Hp) (s : Shared) (e : Value) (s' : Shared), CX w [] H s (fun _ _ _ => False) e s' → False) :
    PySem.W.WalkO q loose XP YP l.row.toRowW d [] (fun f vs => PySem.call f vs) := by
  refine Att.attach_call hn hdf fun w s₀ s₁ mg mb fa o pm cd doc a vs ns G Y ho hd hcd hmg hobj hints hlen hg => ?_
  have KX := hY w _ Y
  obtain ⟨fd, hb, hF⟩ := F w mg fa _ KX G.T.g hmg
  exact law_call KX G.T.g G.T.b G.T.builtins G.T.nolimit hg hobj hints (Nat.le_trans hlen hn2) hr hF hb (fun H hO hS => hsp w H a ns hlen hO hS) fun H e s' => hCX w H s₁ e s'
theorem walk_ofK {l : PySem.W.OpenLaw} {n k : Nat} {q : Program} {loose : List Str} {XP : (Str → Option Value) → Heap → Prop} {YP : World → Heap → Prop} {d : DefRec} {K : Params → PySem.W.Frag} {CX : CXT} {sp : PySem.W.Frag → Sp} {x : Str}
    (hn : l.most = some n) (hn2 : n ≤ sizeLine) (hdf : d.params.defaults = []) (hr : Room k callerA)
    (hY : ∀ (w : World) (h : Heap), YP w h → (K w.params).In h)
    (F : ∀ (w : World) (mg : Str → Option Value) (fa : Addr) (h : Heap), (K w.params).In h → h.Ns mainGlobals mg → mg d.name = some (.ref fa) →
      ∃ fd : FuncData, (∀ (s : Shared) (u : Value), BindsTo s fd ⟨[u], []⟩ [(x, u)]) ∧
        ∀ base : Heap, (K w.params).In base → base.Ns mainGlobals mg → FnOk l.prog w (K w.params) mg base CX k fa fd [x] (sp (K w.params)))
    (hsp : ∀ (K : PySem.W.Frag) (H : Hp) (a : Addr) (ns : List Int), ns.length ≤ n → Only H → SqL K H a (ns.map V.int) → sp K [.ref a] H (fun v _ => v = .bl true) fun _ _ _ => False)
    (hCX : ∀ (H : Hp) (s : Shared) (e : Value) (s' : Shared), CX [] H s (fun _ _ _ => False) e s' → False) :
    PySem.W.WalkO q loose XP YP l.row.toRowW d [] (fun f vs => PySem.call f vs) :=
  walk_of (K := K) (CX := fun _ => CX) (sp := fun w => sp (K w.params)) hn hn2 hdf hr hY F (fun w H a ns h1 h2 h3 => hsp (K w.params) H a ns h1 h2 h3) fun _ H s e s' => hCX H s e s'
end L2

/- THE LAST THEOREM (shape; LID, My.* are yours):
   My.Adr: a structure of the addresses that your layer names (classes, functions); My.Txt K t: a structure (Prop) of the equations over K;
   My.txt_mk : {K} {implicit addresses ..} (e1 : nsIn K mainGlobals "law" = some (some (.ref f))) (e2 : K.lookup f = some ⟨oc, od, .func (fnOf "law" "law" params body scope dV kV doc pm an cdv ct), sl⟩) (e3 : codeIn K cdv "law" = true) .. : ∃ t, My.Txt K t

set_option maxRecDepth 100000 in
set_option maxHeartbeats 0 in
theorem PySem.Challenge.cw_LID_holds : PySem.Challenge.rw_LID.Holds := by
  w_on; o_law; k_head; (case hw => w_witness2)
  k_fill
  refine L2.walk_of (l := PySem.Challenge.rw_LID) (n := 63) (k := 40) (x := "script") (CX := fun w => ..) (sp := fun _ => My.sp_law) rfl (by decide) rfl ⟨rfl, by decide, by decide⟩ (fun w h Y => PySem.W.kIn_of Y) ?F ?S ?C
  case F =>
    intro w mg fa h KX G hmg
    have T : ∃ t, My.Txt (L2.KOf KX) t := by
      dsimp only [L2.KOf]                          -- K must stand as «<heap const> w.params» for k_is
      refine' My.txt_mk ?e1 ?e2 ?e3 ..
      (case e1 => PySem.W.k_is)                    -- in the order: a name -> its address -> its object -> its parts
      (case e2 => PySem.W.k_is)
      ..
    obtain ⟨t, T⟩ := T
    have e0 := hmg.symm.trans (PySem.W.mg_of KX G T.law)
    cases e0                                       -- fa is the law's own address
    exact ⟨_, fun s u => .of_eq rfl, fun base kb nb => My.law_fn T kb nb⟩     -- if «.of_eq rfl» comes too early: refine' ⟨_, ?b, fun base kb nb => My.law_fn T kb nb⟩; exact fun s u => .of_eq rfl
  case S => exact fun w H a ns hl hO hS => ..
  case C => exact ..
(the tactic k_is has no namespace: write k_is) -/

namespace L2
open PySem PySem.Spec PyProof.Rows

def inClass (s : Stmt) (j : Nat) : Stmt := match s with
  | .ClassDef _ _ _ body _ _ _ _ _ _ _ => body.getD j (.Pass ⟨0, 0, 0, 0⟩)
  | _ => .Pass ⟨0, 0, 0, 0⟩
def defArgs (s : Stmt) : Arguments := match s with
  | .FunctionDef _ a _ _ _ _ _ _ _ _ => a
  | _ => { posonlyargs := [], args := [], vararg := none, kwonlyargs := [], kw_defaults := [], kwarg := none, defaults := [] }
def defBody (s : Stmt) : List Stmt := match s with
  | .FunctionDef _ _ b _ _ _ _ _ _ _ => b
  | _ => []
def defScope (s : Stmt) : Scope := match s with
  | .FunctionDef _ _ _ _ _ _ sc _ _ _ => sc
  | _ => { kind := .function, names := [], isGenerator := false, isCoroutine := false }

abbrev CX0 : CXT := fun _ _ _ _ _ _ => False
abbrev E0 : XK := fun _ _ _ => False
theorem pass0 {X : Cx} : Passes CX0 X E0 := fun _ _ _ _ _ _ _ h => h.elim

structure Fun (K : PySem.W.Frag) (x qual : Str) (st : Stmt) (f : Addr) (fd : FuncData) : Prop where
  ex : ∃ (oc : Value) (od : Option Addr) (kV doc pm : Value) (an : Option Addr) (cdv ct : Value) (osl : Array (Option Value)),
    fd = PySem.W.fnOf x qual (defArgs st) (defBody st) (defScope st) .none kV doc pm an cdv ct ∧ K.lookup f = some ⟨oc, od, .func fd, osl⟩ ∧ PySem.W.codeIn K cdv qual = true
  kp : PySem.W.keepIn K (.ref f) = true
section
variable {P : Program} {w : World} {K : PySem.W.Frag} {mg : Str → Option Value} {base : Heap}
theorem Fun.ok {x qual : Str} {st : Stmt} {f : Addr} {fd : FuncData} {N ps : List Str} {k : Nat} {sp : Sp} (F : Fun K x qual st f fd) (S : FnScope N ps (defScope st)) (len : ∀ vs H Q E, sp vs H Q E → vs.length = ps.length)
    (hbody : ∀ (cdv : Value) (A : Around) (outer : List Env) (s : Shared) (H : Hp) (vs : List V) (Q : VK) (E : XK), Room k (A.deeper (envOfC qual (defScope st) s.heap.objs.size f cdv)) → sp vs H Q E →
      ∃ t, PSs (cxOf CX0 P w K mg base N qual (defScope st) f cdv A outer s H E).nox (defBody st) t ∧ t { nx := fun _ H' => Q .non H', rt := Q } (start N vs) H) : FnOk P w K mg base CX0 (k + 1) f fd ps sp := by
  obtain ⟨oc, od, kV, doc, pm, an, cdv, ct, osl, rfl, lk, hcd⟩ := F.ex
  refine fn_of lk hcd S len fun A outer s H vs Q E hr hsp => ?_
  obtain ⟨t, h, q⟩ := hbody cdv A outer s H vs Q E hr hsp
  exact ⟨t, h.nox, q⟩
theorem Fun.binds {x qual : Str} {st : Stmt} {f : Addr} {fd : FuncData} {ps : List Str} (F : Fun K x qual st f fd)
    (h : ∀ (kV doc pm : Value) (an : Option Addr) (cdv ct : Value) (us : List Value), us.length = ps.length → bindArgs (PySem.W.fnOf x qual (defArgs st) (defBody st) (defScope st) .none kV doc pm an cdv ct) ⟨us, []⟩ = pure (ps.zip us)) : Binds K fd ps [] := by
  obtain ⟨oc, od, kV, doc, pm, an, cdv, ct, osl, rfl, lk, hcd⟩ := F.ex
  exact .all (h kV doc pm an cdv ct)
theorem fun_mk {x qual : Str} {st : Stmt} {f : Addr} {oc : Value} {od an : Option Addr} {osl : Array (Option Value)} {kV doc pm cdv ct : Value} (l : K.lookup f = some ⟨oc, od, .func (PySem.W.fnOf x qual (defArgs st) (defBody st) (defScope st) .none kV doc pm an cdv ct), osl⟩)
    (c : PySem.W.codeIn K cdv qual = true) (k : PySem.W.keepIn K (.ref f) = true) : Fun K x qual st f (PySem.W.fnOf x qual (defArgs st) (defBody st) (defScope st) .none kV doc pm an cdv ct) := ⟨⟨oc, od, kV, doc, pm, an, cdv, ct, osl, rfl, l, c⟩, k⟩
end
theorem hu_of {A : Around} {k : Nat} (hr : Room k A) : A.units + 1 < cLine := Nat.lt_of_le_of_lt (Nat.add_le_add_left (by decide : 1 ≤ 64) _) hr.units
theorem small1000 {n : Nat} (h : n ≤ 1000) : n < sizeLine := Nat.lt_of_le_of_lt h (by decide)

section
variable {X : Cx}
theorem pv (i : Nat) {x : Str} {pos : Pos} (hN : X.N[i]? = some x := by rfl) (hv : Vis X.env.scope x := by first | exact Or.inl rfl | exact Or.inr (Or.inl rfl) | exact Or.inr (Or.inr rfl)) (hd : (x == ("__debug__" : Str)) = false := by decide)
    (hcd : (x == ("__classdict__" : Str)) = false := by decide) : PE X (.Name x pos) (tVar i) := pe_var hN hv hd hcd
end

theorem iteF {A B : Prop} (h : B) : if false = true then A else B := by
  rw [if_neg Bool.false_ne_true]
  exact h
theorem iteT {A B : Prop} (h : A) : if true = true then A else B := by
  rw [if_pos rfl]
  exact h
theorem ite2 {c A B : Prop} [Decidable c] (h1 : c → A) (h2 : ¬ c → B) : if c then A else B := by
  by_cases h : c
  · rw [if_pos h]
    exact h1 h
  · rw [if_neg h]
    exact h2 h
theorem iteNS {c A B : Prop} [Decidable c] (hc : c) (h : B) : if (!decide c) = true then A else B := by
  rw [decide_eq_true hc]
  exact iteF h

def Same (H H' : Hp) : Prop := ∀ b o, H b = some o → H' b = some o
theorem Same.refl (H : Hp) : Same H H := fun _ _ h => h
theorem Same.trans {H H1 H2 : Hp} (a : Same H H1) (b : Same H1 H2) : Same H H2 := fun c o h => b c o (a c o h)
theorem Same.free {H H' : Hp} (e : Same H H') {l : Addr} (h : H' l = Option.none) : H l = Option.none := by
  cases q : H l with
  | none => rfl
  | some o =>
    rw [e l o q] at h
    cases h
theorem Same.seq {K : PySem.W.Frag} {H H' : Hp} {a : Addr} {xs : List V} (e : Same H H') (h : SqL K H a xs) : SqL K H' a xs := by
  rcases h with (h | ⟨o, h⟩) | h
  · exact .inl (.inl (e _ _ h))
  · exact .inl (.inr ⟨o, e _ _ h⟩)
  · exact .inr h

end L2

set_option Elab.async false
set_option linter.all false
set_option maxRecDepth 100000
namespace L2
open PySem PySem.Spec PyProof.Rows

section
variable {κ : Type} [DecidableEq κ]
def valV (kvs : List (κ × V)) (k : κ) : Option V := (kvs.find? fun kv => decide (kv.1 = k)).map (·.2)
def putK (kvs : List (κ × V)) (k : κ) (v : V) : List (κ × V) :=
  if (kvs.any fun kv => decide (kv.1 = k)) = true then kvs.map (fun kv => if kv.1 = k then (kv.1, v) else kv) else kvs ++ [(k, v)]
def dropK (kvs : List (κ × V)) (k : κ) : List (κ × V) := kvs.filter fun kv => decide (kv.1 ≠ k)

theorem valV_nil {k : κ} : valV ([] : List (κ × V)) k = none := rfl
theorem valV_pos {p : κ × V} {r : List (κ × V)} {k : κ} (e : p.1 = k) : valV (p :: r) k = some p.2 := by simp [valV, List.find?_cons, e]
theorem valV_neg {p : κ × V} {r : List (κ × V)} {k : κ} (e : ¬ p.1 = k) : valV (p :: r) k = valV r k := by simp [valV, List.find?_cons, e]
theorem valV_any (k : κ) : ∀ kvs : List (κ × V), (kvs.any fun kv => decide (kv.1 = k)) = (valV kvs k).isSome
  | [] => rfl
  | p :: r => by
    rw [List.any_cons]
    by_cases e : p.1 = k
    · simp only [valV_pos e, decide_eq_true e, Bool.true_or, Option.isSome_some]
    · rw [valV_neg e, decide_eq_false e, Bool.false_or]; exact valV_any k r
theorem valV_map (k j : κ) (y : V) : ∀ kvs : List (κ × V), valV (kvs.map fun kv => if kv.1 = k then (kv.1, y) else kv) j = (valV kvs j).map fun x => if j = k then y else x
  | [] => rfl
  | p :: r => by
    have ih := valV_map k j y r
    rw [List.map_cons]
    by_cases h : p.1 = k
    · rw [if_pos h]
      by_cases e : p.1 = j
      · rw [valV_pos (p := (p.1, y)) e, valV_pos e, Option.map_some, if_pos (e.symm.trans h)]
      · rw [valV_neg (p := (p.1, y)) e, valV_neg e, ih]
    · rw [if_neg h]
      by_cases e : p.1 = j
      · rw [valV_pos (p := p) e, valV_pos e, Option.map_some, if_neg (fun z => h (e.trans z))]
      · rw [valV_neg (p := p) e, valV_neg e, ih]
theorem valV_snoc (k j : κ) (y : V) : ∀ kvs : List (κ × V), valV kvs k = none → valV (kvs ++ [(k, y)]) j = if j = k then some y else valV kvs j
  | [], _ => by
    by_cases e : k = j
    · rw [if_pos e.symm]; exact valV_pos (p := (k, y)) e
    · rw [if_neg (fun z => e z.symm)]; exact valV_neg (p := (k, y)) e
  | p :: r, hn => by
    rw [List.cons_append]
    have hk : ¬ p.1 = k := fun z => by rw [valV_pos z] at hn; cases hn
    rw [valV_neg hk] at hn
    have ih := valV_snoc k j y r hn
    by_cases e : p.1 = j
    · rw [valV_pos e, valV_pos e, if_neg (fun z => hk (e.trans z))]
    · rw [valV_neg e, valV_neg e, ih]
theorem valV_put (kvs : List (κ × V)) (k j : κ) (y : V) : valV (putK kvs k y) j = if j = k then some y else valV kvs j := by
  unfold putK
  by_cases a : (kvs.any fun kv => decide (kv.1 = k)) = true
  · rw [if_pos a, valV_map]
    rw [valV_any] at a
    by_cases e : j = k
    · obtain ⟨x, hx⟩ := Option.isSome_iff_exists.mp a
      rw [if_pos e, e, hx, Option.map_some, if_pos rfl]
    · rw [if_neg e]
      cases valV kvs j with
      | none => rfl
      | some x => rw [Option.map_some, if_neg e]
  · rw [if_neg a]
    refine valV_snoc k j y kvs ?_
    rw [valV_any] at a
    cases q : valV kvs k with
    | none => rfl
    | some x => rw [q] at a; exact (a rfl).elim
theorem length_putK (kvs : List (κ × V)) (k : κ) (v : V) : (putK kvs k v).length ≤ kvs.length + 1 := by
  unfold putK
  split
  · rw [List.length_map]; omega
  · rw [List.length_append, List.length_cons, List.length_nil]; omega
theorem putK_new {kvs : List (κ × V)} {k : κ} (v : V) (h : valV kvs k = none) : putK kvs k v = kvs ++ [(k, v)] := by
  unfold putK
  rw [valV_any, h]
  exact if_neg (by decide)

theorem RelO.isSome_eq {o : Option V} {u : Option Value} (r : RelO o u) : o.isSome = u.isSome := by
  cases o with
  | none => cases u with
    | none => rfl
    | some _ => exact (show False from r).elim
  | some _ => cases u with
    | none => exact (show False from r).elim
    | some _ => rfl
theorem RelO.getD {o : Option V} {u : Option Value} {d : V} {d' : Value} (r : RelO o u) (rd : RelV d d') : RelV (o.getD d) (u.getD d') := by
  cases o with
  | none => cases u with
    | none => exact rd
    | some _ => exact (show False from r).elim
  | some _ => cases u with
    | none => exact (show False from r).elim
    | some _ => exact r

theorem KV.val {kvs : List (κ × V)} {vs : List (κ × Value)} (r : KV kvs vs) (k : κ) : RelO (valV kvs k) (valueAt vs k) := by
  unfold KV at r
  induction r with
  | nil => exact True.intro
  | @cons p q ps qs h t ih =>
    obtain ⟨h1, h2⟩ := h
    by_cases e : p.1 = k
    · have e' : q.1 = k := h1.symm.trans e
      have b : valueAt (q :: qs) k = some q.2 := by simp [valueAt, List.find?_cons, e']
      rw [valV_pos e, b]; exact h2
    · have e' : ¬ q.1 = k := fun z => e (h1.trans z)
      have b : valueAt (q :: qs) k = valueAt qs k := by simp [valueAt, List.find?_cons, e']
      rw [valV_neg e, b]; exact ih
theorem KV.any {kvs : List (κ × V)} {vs : List (κ × Value)} (r : KV kvs vs) (k : κ) : (kvs.any fun kv => decide (kv.1 = k)) = vs.any fun kv => decide (kv.1 = k) := by
  unfold KV at r
  induction r with
  | nil => rfl
  | cons h t ih => rw [List.any_cons, List.any_cons, ih, h.1]
theorem KV.repl {kvs : List (κ × V)} {vs : List (κ × Value)} (r : KV kvs vs) (k : κ) {y : V} {u : Value} (ry : RelV y u) :
    KV (kvs.map fun kv => if kv.1 = k then (kv.1, y) else kv) (vs.map fun kv => if kv.1 = k then (kv.1, u) else kv) := by
  unfold KV at r ⊢
  induction r with
  | nil => exact .nil
  | @cons p q ps qs h t ih =>
    rw [List.map_cons, List.map_cons]
    refine .cons ?_ ih
    obtain ⟨h1, h2⟩ := h
    by_cases e : p.1 = k
    · rw [if_pos e, if_pos (h1.symm.trans e)]; exact ⟨h1, ry⟩
    · rw [if_neg e, if_neg (fun z => e (h1.trans z))]; exact ⟨h1, h2⟩
theorem KV.put {kvs : List (κ × V)} {vs : List (κ × Value)} (r : KV kvs vs) (k : κ) {y : V} {u : Value} (ry : RelV y u) : KV (putK kvs k y) (stored vs k u) := by
  unfold putK stored
  rw [r.any k]
  by_cases e : (vs.any fun kv => decide (kv.1 = k)) = true
  · rw [if_pos e, if_pos e]; exact r.repl k ry
  · rw [if_neg e, if_neg e]; exact Paired.snoc r ⟨rfl, ry⟩
theorem KV.drop {kvs : List (κ × V)} {vs : List (κ × Value)} (r : KV kvs vs) (k : κ) : KV (dropK kvs k) (without vs k) := by
  unfold KV at r ⊢
  unfold dropK without
  induction r with
  | nil => exact .nil
  | @cons p q ps qs h t ih =>
    obtain ⟨h1, h2⟩ := h
    rw [List.filter_cons, List.filter_cons]
    by_cases e : p.1 = k
    · have a : ¬ decide (p.1 ≠ k) = true := by simp [e]
      have b : ¬ decide (q.1 ≠ k) = true := by simp [h1.symm.trans e]
      rw [if_neg a, if_neg b]; exact ih
    · have e' : ¬ q.1 = k := fun z => e (h1.trans z)
      have a : decide (p.1 ≠ k) = true := by simp [e]
      have b : decide (q.1 ≠ k) = true := by simp [e']
      rw [if_pos a, if_pos b]; exact .cons ⟨h1, h2⟩ ih
theorem KV.keys {kvs : List (κ × V)} {vs : List (κ × Value)} (r : KV kvs vs) : kvs.map (·.1) = vs.map (·.1) := by
  unfold KV at r
  induction r with
  | nil => rfl
  | cons h t ih => rw [List.map_cons, List.map_cons, ih, h.1]
theorem KV.length {kvs : List (κ × V)} {vs : List (κ × Value)} (r : KV kvs vs) : kvs.length = vs.length := Paired.length r
theorem dropK_le (kvs : List (κ × V)) (k : κ) : (dropK kvs k).length ≤ kvs.length := List.length_filter_le _ _
end


theorem kV_is {P : Program} {w : World} {k : Key} {u : Value} (r : RelV (kV k) u) : (mixKind P w).is k u = true := by
  cases k with
  | inl i => obtain ⟨t, e⟩ := (show ∃ t, u = Value.int i t from r); subst e; exact mixKind_int P w i t
  | inr x => obtain ⟨t, e⟩ := (show ∃ t, u = Value.str x t from r); subst e; exact mixKind_str P w x t
theorem kV_inj {a b : Key} (e : kV a = kV b) : a = b := by
  cases a with
  | inl i => cases b with
    | inl j => have e' : V.int i = V.int j := e; injection e' with e'; rw [e']
    | inr y => exact nomatch (show V.int i = V.str y from e)
  | inr x => cases b with
    | inl j => exact nomatch (show V.str x = V.int j from e)
    | inr y => have e' : V.str x = V.str y := e; injection e' with e'; rw [e']
theorem kVs_inj : ∀ {a b : List Key}, a.map kV = b.map kV → a = b
  | [], [], _ => rfl
  | [], _ :: _, e => by simp at e
  | _ :: _, [], e => by simp at e
  | x :: xs, y :: ys, e => by
    rw [List.map_cons, List.map_cons] at e
    injection e with e1 e2
    rw [kV_inj e1, kVs_inj e2]
theorem items_are {P : Program} {w : World} : ∀ {ks : List Key} {us : List Value}, Vals (ks.map kV) us → ItemsAre (mixKind P w) ks us
  | [], _, r => by rw [List.map_nil] at r; cases r; exact .nil
  | k :: ks, _, r => by
    rw [List.map_cons] at r
    cases r with
    | cons h t => exact .cons (kV_is h) (items_are t)

abbrev KT (H : Hp) : List (List Key × V) → List (List Key × Addr × Value) → Prop := Paired fun p q => p.1 = q.1 ∧ H q.2.1 = some (.tup (p.1.map kV)) ∧ RelV p.2 q.2.2
theorem KT.val {H : Hp} {kvs : List (List Key × V)} {xs : List (List Key × Addr × Value)} (r : KT H kvs xs) (k : List Key) : RelO (valV kvs k) ((atKey xs k).map (·.2)) := by
  induction r with
  | nil => exact True.intro
  | @cons p q ps qs h t ih =>
    obtain ⟨h1, _, h2⟩ := h
    by_cases e : p.1 = k
    · have e' : q.1 = k := h1.symm.trans e
      have b : atKey (q :: qs) k = some q.2 := by simp [atKey, List.find?_cons, e']
      rw [valV_pos e, b]; exact h2
    · have e' : ¬ q.1 = k := fun z => e (h1.trans z)
      have b : atKey (q :: qs) k = atKey qs k := by simp [atKey, List.find?_cons, e']
      rw [valV_neg e, b]; exact ih
theorem KT.repl {H : Hp} {kvs : List (List Key × V)} {xs : List (List Key × Addr × Value)} (r : KT H kvs xs) (k : List Key) {y : V} {u : Value} (ry : RelV y u) :
    KT H (kvs.map fun kv => if kv.1 = k then (kv.1, y) else kv) (xs.map (putAt k u)) := by
  induction r with
  | nil => exact .nil
  | @cons p q ps qs h t ih =>
    rw [List.map_cons, List.map_cons]
    refine .cons ?_ ih
    obtain ⟨h1, h2, h3⟩ := h
    unfold putAt
    by_cases e : p.1 = k
    · rw [if_pos e, if_pos (h1.symm.trans e)]; exact ⟨h1, h2, ry⟩
    · rw [if_neg e, if_neg (fun z => e (h1.trans z))]; exact ⟨h1, h2, h3⟩
theorem KT.put {H : Hp} {kvs : List (List Key × V)} {xs : List (List Key × Addr × Value)} (r : KT H kvs xs) (k : List Key) {b : Addr} {y : V} {u : Value} (hb : H b = some (.tup (k.map kV))) (ry : RelV y u) :
    KT H (putK kvs k y) (storedH xs k b u) := by
  have e : (kvs.any fun kv => decide (kv.1 = k)) = (atKey xs k).isSome := by
    rw [valV_any, (r.val k).isSome_eq, Option.isSome_map]
  unfold putK storedH
  rw [e]
  by_cases q : (atKey xs k).isSome = true
  · rw [if_pos q, if_pos q]; exact r.repl k ry
  · rw [if_neg q, if_neg q]; exact Paired.snoc r ⟨rfl, hb, ry⟩
theorem KT.keeps {H H' : Hp} {kvs : List (List Key × V)} {xs : List (List Key × Addr × Value)} (r : KT H kvs xs) (ht : ∀ b ys, H b = some (.tup ys) → H' b = some (.tup ys)) : KT H' kvs xs :=
  Paired.mapP r fun _ _ z => ⟨z.1, ht _ _ z.2.1, z.2.2⟩

section
variable {P : Program} {w : World} {H : Hp} {h : Heap} {a : Addr}
theorem rd_of {u : HO} (ok : HOk P w H h) (e : Rd H a u) : ObjOk P w H h a u := e.ok ok
theorem dk_rd {kvs : List (Key × V)} (ok : HOk P w H h) (e : Rd H a (.dK kvs)) : kvs.length ≤ sizeLine ∧ (a == sysModules) = false ∧ ∃ vs, KV kvs vs ∧ h.DictOf (mixKind P w) a vs :=
  show ObjOk P w H h a (.dK kvs) from rd_of ok e
theorem dk_of {kvs : List (Key × V)} (ok : HOk P w H h) (e : H a = some (.dK kvs)) : kvs.length ≤ sizeLine ∧ (a == sysModules) = false ∧ ∃ vs, KV kvs vs ∧ h.DictOf (mixKind P w) a vs := dk_rd ok (.inl e)
theorem key_of {ks : List Key} (ok : HOk P w H h) (e : H a = some (.tup (ks.map kV))) : (tupleKind (mixKind P w)).is h ks a := by
  obtain ⟨_, its, r, o, h1, h2, n, h3⟩ := (show ObjOk P w H h a (.tup (ks.map kV)) from ok a _ e)
  exact ⟨o, its.toArray, n, h1, h2, h3, by simpa using items_are r⟩
theorem dt_rd {kvs : List (List Key × V)} (ok : HOk P w H h) (e : Rd H a (.dT kvs)) : kvs.length ≤ sizeLine ∧ (a == sysModules) = false ∧
    ∃ xs, KT H kvs xs ∧ h.DictOfH (tupleKind (mixKind P w)) a xs := by
  obtain ⟨z, y, xs, r, o, es, ep, h1, h2, h3, h4, h5⟩ := (show ObjOk P w H h a (.dT kvs) from rd_of ok e)
  refine ⟨z, y, xs, r, o, es, ep, h1, h2, h3, h4, fun x hx => ?_, h5⟩
  have all : ∀ {l : List (List Key × V)} {m : List (List Key × Addr × Value)}, KT H l m → ∀ x ∈ m, (tupleKind (mixKind P w)).is h x.1 x.2.1 := by
    intro l m q
    induction q with
    | nil => intro x hx; exact nomatch hx
    | @cons p q ps qs hq t ih =>
      intro x hx
      rcases List.mem_cons.mp hx with e | hx
      · subst e
        exact key_of ok (by rw [← hq.1]; exact hq.2.1)
      · exact ih x hx
  exact all r x hx
theorem dt_of {kvs : List (List Key × V)} (ok : HOk P w H h) (e : H a = some (.dT kvs)) : kvs.length ≤ sizeLine ∧ (a == sysModules) = false ∧
    ∃ xs, KT H kvs xs ∧ h.DictOfH (tupleKind (mixKind P w)) a xs := dt_rd ok (.inl e)
end

def DGet (H : Hp) (a : Addr) (y : V) (r : Option V) : Prop :=
  (∃ kvs k, Rd H a (.dK kvs) ∧ y = kV k ∧ r = valV kvs k) ∨ ∃ kvs k b, Rd H a (.dT kvs) ∧ y = .ref b ∧ H b = some (.tup (k.map kV)) ∧ r = valV kvs k
def DPut (H : Hp) (a : Addr) (y v : V) (H' : Hp) : Prop :=
  (∃ kvs k, H a = some (.dK kvs) ∧ y = kV k ∧ kvs.length < sizeLine ∧ H' = upd H a (.dK (putK kvs k v))) ∨
  ∃ kvs k b, H a = some (.dT kvs) ∧ y = .ref b ∧ H b = some (.tup (k.map kV)) ∧ kvs.length < sizeLine ∧ H' = upd H a (.dT (putK kvs k v))
theorem DGet.k {H : Hp} {a : Addr} {kvs : List (Key × V)} {k : Key} (e : H a = some (.dK kvs)) : DGet H a (kV k) (valV kvs k) := .inl ⟨kvs, k, .inl e, rfl, rfl⟩
theorem DGet.t {H : Hp} {a b : Addr} {kvs : List (List Key × V)} {k : List Key} (e : H a = some (.dT kvs)) (eb : H b = some (.tup (k.map kV))) : DGet H a (.ref b) (valV kvs k) := .inr ⟨kvs, k, b, .inl e, rfl, eb, rfl⟩
theorem DPut.k {H : Hp} {a : Addr} {kvs : List (Key × V)} {k : Key} {v : V} (e : H a = some (.dK kvs)) (hl : kvs.length < sizeLine) : DPut H a (kV k) v (upd H a (.dK (putK kvs k v))) := .inl ⟨kvs, k, e, rfl, hl, rfl⟩
theorem DPut.t {H : Hp} {a b : Addr} {kvs : List (List Key × V)} {k : List Key} {v : V} (e : H a = some (.dT kvs)) (eb : H b = some (.tup (k.map kV))) (hl : kvs.length < sizeLine) :
    DPut H a (.ref b) v (upd H a (.dT (putK kvs k v))) := .inr ⟨kvs, k, b, e, rfl, eb, hl, rfl⟩


section
variable {X : Cx} {pins : List (Addr × Obj)} {σ : St} {H : Hp} {s : Shared} {a : Addr} {y v : V} {u r : Value} {o : Option V} {A : Around} {E : Value → Shared → Prop}

theorem Inv.big (I : Inv X pins σ H s) : sysModules < s.heap.objs.size := by
  have h : mainGlobals < s.heap.objs.size := (I.mod.glob.keeps I.bk).lt
  exact Nat.lt_trans (by decide) h

theorem d_getItem {Q : Value → Shared → Prop} (hu : A.units + 1 < cLine) (I : Inv X pins σ H s) (g : DGet H a y (some v)) (ry : RelV y u) (h : ∀ w' s', Inv X pins σ H s' → RelV v w' → Q w' s') :
    wpAny (model X.prog X.w) A (getItem (.ref a) u) Q E s := by
  rcases g with ⟨kvs, k, e, ey, l⟩ | ⟨kvs, k, b, e, ey, eb, l⟩
  · subst ey
    obtain ⟨z, hd, vs, rel, dd⟩ := dk_rd I.hok e
    obtain ⟨w', hw, rw'⟩ := RelO.some_of (v := v) (o := valueAt vs k) (by rw [l]; exact rel.val k)
    exact wpAny_getItem_of (kV_is ry) dd.mapOf hw (h w' _ (I.tok _) rw')
  · subst ey
    cases (show u = Value.ref b from ry)
    obtain ⟨z, hd, xs, rel, dd⟩ := dt_rd I.hok e
    obtain ⟨w', hw, rw'⟩ := RelO.some_of (v := v) (o := (atKey xs k).map (·.2)) (by rw [l]; exact rel.val k)
    obtain ⟨p, hp, hp2⟩ := Option.map_eq_some_iff.mp hw
    refine wpAny_getItem_heap (tupleKind_room_in1 hu) (key_of I.hok eb) dd hp ?_
    rw [hp2]
    exact h w' _ (I.tok _) rw'
theorem d_in {Q : Value → Shared → Prop} (hu : A.units + 1 < cLine) (I : Inv X pins σ H s) (g : DGet H a y o) (ry : RelV y u) (h : ∀ s', Inv X pins σ H s' → Q (.bool o.isSome) s') :
    wpAny (model X.prog X.w) A (compareOp .In u (.ref a)) Q E s := by
  rcases g with ⟨kvs, k, e, ey, l⟩ | ⟨kvs, k, b, e, ey, eb, l⟩
  · subst ey
    obtain ⟨z, hd, vs, rel, dd⟩ := dk_rd I.hok e
    refine wpAny_in_of (kV_is ry) hd dd.mapOf ?_
    rw [← (rel.val k).isSome_eq, ← l]
    exact h _ (I.tok _)
  · subst ey
    cases (show u = Value.ref b from ry)
    obtain ⟨z, hd, xs, rel, dd⟩ := dt_rd I.hok e
    refine wpAny_in_heap (tupleKind_room_in1 hu) (key_of I.hok eb) hd dd ?_
    have q := (rel.val k).isSome_eq
    rw [Option.isSome_map] at q
    rw [← q, ← l]
    exact h _ (I.tok _)
theorem d_notIn {Q : Value → Shared → Prop} (hu : A.units + 1 < cLine) (I : Inv X pins σ H s) (g : DGet H a y o) (ry : RelV y u) (h : ∀ s', Inv X pins σ H s' → Q (.bool (!o.isSome)) s') :
    wpAny (model X.prog X.w) A (compareOp .NotIn u (.ref a)) Q E s := by
  rcases g with ⟨kvs, k, e, ey, l⟩ | ⟨kvs, k, b, e, ey, eb, l⟩
  · subst ey
    obtain ⟨z, hd, vs, rel, dd⟩ := dk_rd I.hok e
    refine wpAny_notIn_of (kV_is ry) hd dd.mapOf ?_
    rw [← (rel.val k).isSome_eq, ← l]
    exact h _ (I.tok _)
  · subst ey
    cases (show u = Value.ref b from ry)
    obtain ⟨z, hd, xs, rel, dd⟩ := dt_rd I.hok e
    refine wpAny_notIn_heap (tupleKind_room_in1 hu) (key_of I.hok eb) hd dd ?_
    have q := (rel.val k).isSome_eq
    rw [Option.isSome_map] at q
    rw [← q, ← l]
    exact h _ (I.tok _)
theorem d_write {h' : Heap} {t' : Nat} {ob : HO} (I : Inv X pins σ H s) (mu : Mut (H a)) (hs : Heap.SameBut a s.heap h') (he : ∃ q, h'.get? a = some q) (new : ObjOk X.prog X.w (upd H a ob) h' a ob) :
    Inv X pins σ (upd H a ob) { s with heap := h', toks := t' } :=
  I.write (x := a) (e := a) mu (.inl rfl) (fun b q hb z => (hs.2 b hb).trans z) he new
theorem dk_new {P : Program} {w : World} {H' : Hp} {h' : Heap} {kvs : List (Key × V)} {vs : List (Key × Value)} (z : kvs.length ≤ sizeLine) (hd : (a == sysModules) = false) (rel : KV kvs vs) (dd : h'.DictOf (mixKind P w) a vs) :
    ObjOk P w H' h' a (.dK kvs) := ⟨z, hd, vs, rel, dd⟩
theorem d_setItem {H' : Hp} {Q : Unit → Shared → Prop} (hu : A.units + 1 < cLine) (I : Inv X pins σ H s) (g : DPut H a y v H') (ry : RelV y u) (rv : RelV v r) (h : ∀ s', Inv X pins σ H' s' → Q () s') :
    wpAny (model X.prog X.w) A (setItem (.ref a) u r) Q E s := by
  rcases g with ⟨kvs, k, e, ey, l, eH⟩ | ⟨kvs, k, b, e, ey, eb, l, eH⟩
  · subst ey eH
    obtain ⟨z, hd, vs, rel, dd⟩ := dk_of I.hok e
    have hz : vs.length ≤ sizeLine := by rw [← rel.length]; exact z
    have hl : (putK kvs k v).length ≤ sizeLine := by have := length_putK kvs k v; omega
    refine wpAny_setItem_pairs (hsz := hz) (kV_is ry) dd fun h' dd' hs => h _ ?_
    have he : ∃ q, h'.get? a = some q := let ⟨q, _, _, hq, _⟩ := dd'; ⟨q, hq⟩
    exact d_write I (by rw [e]; exact True.intro) hs he (dk_new hl hd (rel.put k rv) dd')
  · subst ey eH
    cases (show u = Value.ref b from ry)
    obtain ⟨z, hd, xs, rel, dd⟩ := dt_of I.hok e
    have hz : xs.length ≤ sizeLine := by rw [← Paired.length rel]; exact z
    have hl : (putK kvs k v).length ≤ sizeLine := by have := length_putK kvs k v; omega
    refine wpAny_setItem_heap (hsz := hz) (tupleKind_room_in1 hu) (key_of I.hok eb) dd fun h' dd' hs => h _ ?_
    obtain ⟨q, es, ep, hq, h2, h3, h4, _, h5⟩ := dd'
    refine d_write I (by rw [e]; exact True.intro) hs ⟨q, hq⟩ ⟨hl, hd, _, (rel.put k eb rv).keeps fun c ys ec => ?_, q, es, ep, hq, h2, h3, h4, h5⟩
    rw [upd_ne (ne_of ec e (fun z => nomatch z))]
    exact ec
end

section
variable {X : Cx} {pins : List (Addr × Obj)} {σ : St} {H : Hp} {s : Shared} {a : Addr} {kvs : List (Key × V)} {k : Key} {u : Value} {A : Around} {E : Value → Shared → Prop}
theorem d_delItem {Q : Unit → Shared → Prop} (I : Inv X pins σ H s) (e : H a = some (.dK kvs)) (ry : RelV (kV k) u) (l : (valV kvs k).isSome = true) (h : ∀ s', Inv X pins σ (upd H a (.dK (dropK kvs k))) s' → Q () s') :
    wpAny (model X.prog X.w) A (delItem (.ref a) u) Q E s := by
  obtain ⟨z, hd, vs, rel, dd⟩ := dk_of I.hok e
  refine wpAny_delItem_slot dd.typeIs (by decide) PySem.F.slot_dict_delitem
    (call_meetsIn PySem.F.slot_dict_delitem dd.typeIs PySem.F.entry_dict_delitem (PySem.F.args_dict_delitem_2 _ _) (meets_dict_delitem_pairs (mixKind X.prog X.w) a (kV_is ry)) ⟨vs, dd, by rw [← rel.length]; exact z, by rw [← (rel.val k).isSome_eq]; exact l, fun h' dd' hs => h _ ?_⟩)
  have he : ∃ q, h'.get? a = some q := let ⟨q, _, _, hq, _⟩ := dd'; ⟨q, hq⟩
  exact d_write I (by rw [e]; exact True.intro) hs he (dk_new (Nat.le_trans (dropK_le kvs k) z) hd (rel.drop k) dd')
theorem d_pop {v : V} {more : List Value} {Q : Value → Shared → Prop} (I : Inv X pins σ H s) (e : H a = some (.dK kvs)) (ry : RelV (kV k) u) (l : valV kvs k = some v) (hm : more = [] ∨ ∃ x, more = [x])
    (h : ∀ w' s', Inv X pins σ (upd H a (.dK (dropK kvs k))) s' → RelV v w' → Q w' s') : wpAny (model X.prog X.w) A (call (.builtin "dict.pop") (.ref a :: u :: more)) Q E s := by
  obtain ⟨z, hd, vs, rel, dd⟩ := dk_of I.hok e
  obtain ⟨w', hw, rw'⟩ := RelO.some_of (v := v) (o := valueAt vs k) (by rw [← l]; exact rel.val k)
  have hp : (keyPart u).isSome = true := by
    cases k with
    | inl i => obtain ⟨t, q⟩ := (show ∃ t, u = Value.int i t from ry); subst q; rfl
    | inr x => obtain ⟨t, q⟩ := (show ∃ t, u = Value.str x t from ry); subst q; rfl
  have ha : argsOk "dict.pop" ⟨.ref a :: u :: more, []⟩ := by
    rcases hm with q | ⟨x, q⟩
    · subst q; exact PySem.F.args_dict_pop_2 _ _
    · subst q; exact PySem.F.args_dict_pop_3 _ _ _
  refine call_meetsIn PySem.F.slot_dict_pop dd.typeIs PySem.F.entry_dict_pop ha (meets_dict_pop_there (mixKind X.prog X.w) a (kV_is ry) more hm hp)
    ⟨vs, w', dd, by rw [← rel.length]; exact z, hw, fun h' dd' hs => h w' _ ?_ rw'⟩
  have he : ∃ q, h'.get? a = some q := let ⟨q, _, _, hq, _⟩ := dd'; ⟨q, hq⟩
  exact d_write I (by rw [e]; exact True.intro) hs he (dk_new (Nat.le_trans (dropK_le kvs k) z) hd (rel.drop k) dd')
theorem d_popD {r : Value} {Q : Value → Shared → Prop} (I : Inv X pins σ H s) (e : H a = some (.dK kvs)) (ry : RelV (kV k) u) (l : valV kvs k = none) (h : ∀ s', Inv X pins σ H s' → Q r s') :
    wpAny (model X.prog X.w) A (call (.builtin "dict.pop") [.ref a, u, r]) Q E s := by
  obtain ⟨z, hd, vs, rel, dd⟩ := dk_of I.hok e
  have hn : valueAt vs k = none := RelO.none_of (by rw [← l]; exact rel.val k)
  have hp : (keyPart u).isSome = true := by
    cases k with
    | inl i => obtain ⟨t, q⟩ := (show ∃ t, u = Value.int i t from ry); subst q; rfl
    | inr x => obtain ⟨t, q⟩ := (show ∃ t, u = Value.str x t from ry); subst q; rfl
  exact call_meetsIn PySem.F.slot_dict_pop dd.typeIs PySem.F.entry_dict_pop (PySem.F.args_dict_pop_3 _ _ _) (meets_dict_pop_default (mixKind X.prog X.w) a (kV_is ry) hd hp r) ⟨vs, dd, hn, h _ (I.tok _)⟩
theorem d_clear {Q : Value → Shared → Prop} (I : Inv X pins σ H s) (e : H a = some (.dK kvs)) (h : ∀ s', Inv X pins σ (upd H a (.dK [])) s' → Q .none s') : wpAny (model X.prog X.w) A (call (.builtin "dict.clear") [.ref a]) Q E s := by
  obtain ⟨z, hd, vs, rel, dd⟩ := dk_of I.hok e
  refine call_meetsIn PySem.F.slot_dict_clear dd.typeIs PySem.F.entry_dict_clear (PySem.F.args_dict_clear_1 _) (meets_dict_clear (mixKind X.prog X.w) a) ⟨vs, dd, by rw [← rel.length]; exact z, fun h' dd' hs => h _ ?_⟩
  have he : ∃ q, h'.get? a = some q := let ⟨q, _, _, hq, _⟩ := dd'; ⟨q, hq⟩
  exact d_write (t' := s.toks) I (by rw [e]; exact True.intro) hs he (dk_new (Nat.zero_le _) hd .nil dd')
theorem d_len {Q : Value → Shared → Prop} (I : Inv X pins σ H s) (e : Rd H a (.dK kvs)) (h : ∀ t s', Inv X pins σ H s' → Q (.int kvs.length t) s') : wpAny (model X.prog X.w) A (call (.builtin "len") [.ref a]) Q E s := by
  obtain ⟨z, hd, vs, rel, dd⟩ := dk_rd I.hok e
  refine call_len_dict hd dd (by rw [← rel.length]; rw [sizeLine_eq] at z; omega) ?_
  rw [← rel.length]
  exact h _ _ (I.tok _)
theorem d_truth {Q : Bool → Shared → Prop} (I : Inv X pins σ H s) (e : Rd H a (.dK kvs)) (h : ∀ s', Inv X pins σ H s' → Q (!kvs.isEmpty) s') : wpAny (model X.prog X.w) A (truthy (.ref a)) Q E s := by
  obtain ⟨z, hd, vs, rel, dd⟩ := dk_rd I.hok e
  refine wpAny_truthy_dict hd dd (by rw [← rel.length]; rw [sizeLine_eq] at z; omega) ?_
  have q : kvs.isEmpty = vs.isEmpty := by cases rel <;> rfl
  rw [← q]
  exact h _ (I.tok _)
end


def NoSl (i : Expr) : Prop := ∀ ov iv, subscripted i false ov iv = operate [ov, iv] (getItem ov iv)
theorem subD_of {prog : Program} {w : World} {A : Around} {E : Value → Shared → Prop} {s : Shared} {env : Env} {value slice : Expr} {pos : Pos} {T id : String} {Q : Value → Shared → Prop}
    (hl : typeLookup (.type T) "__getitem__" = pure (some (.builtin id))) (hs : NoSl slice)
    (h : wpAny (model prog w) A (eval value env) (fun o s₁ => wpAny (model prog w) A (eval slice env) (fun i s₂ => s₂.TypeIs o T ∧ wpAny (model prog w) A (getItem o i) Q E s₂) E s₁) E s) :
    wpAny (model prog w) A (eval (.Subscript value slice pos) env) Q E s := by
  refine Subscript_ (wpAny_mono h (fun o s₁ h₁ => wpAny_mono h₁ (fun i s₂ h₂ => ?_) fun _ _ x => x) fun _ _ x => x)
  obtain ⟨hT, h₂⟩ := h₂
  unfold subscriptTail
  refine wpAny_bind ?_
  rw [getitemInPython_of_ne hT.not_modules]
  refine wpAny_bind (wpAny_specialOf hT hl ?_)
  have fin : wpAny (model prog w) A (subscripted slice false o i) (fun r s₃ => wpAny (model prog w) A (letTemporaryGo value o r >>= fun _ => pure r) Q E s₃) E s₂ := by
    rw [hs o i]
    exact wpAny_operating (wpAny_mono h₂ (fun r s₃ h₃ => wpAny_bind (wpAny_letTemporaryGo (wpAny_pure h₃))) fun _ _ x => x)
  first
    | exact wpAny_pure (wpAny_bind fin)
    | exact wpAny_bind (wpAny_pure (wpAny_bind fin))
    | exact wpAny_bind fin

theorem dict_typeIs {X : Cx} {pins : List (Addr × Obj)} {σ : St} {H : Hp} {s : Shared} {a : Addr} {y : V} {o : Option V} (I : Inv X pins σ H s) (g : DGet H a y o) : s.TypeIs (.ref a) "dict" := by
  rcases g with ⟨kvs, k, e, _, _⟩ | ⟨kvs, k, b, e, _, _, _⟩
  · obtain ⟨_, _, vs, _, dd⟩ := dk_rd I.hok e
    exact dd.typeIs
  · obtain ⟨_, _, xs, _, dd⟩ := dt_rd I.hok e
    exact dd.typeIs
theorem dict_noDict {X : Cx} {pins : List (Addr × Obj)} {σ : St} {H : Hp} {s : Shared} {a : Addr} {y : V} {o : Option V} (I : Inv X pins σ H s) (g : DGet H a y o) :
    ∀ b, Value.ref a = .ref b → ∃ ob, s.heap.get? b = some ob ∧ ob.dict = none := fun b q => by
  cases q
  rcases g with ⟨kvs, k, e, _, _⟩ | ⟨kvs, k, b, e, _, _, _⟩
  · obtain ⟨_, _, vs, _, ob, _, _, h1, h2, _⟩ := dk_rd I.hok e
    exact ⟨ob, h1, h2.2.1⟩
  · obtain ⟨_, _, xs, _, ob, _, _, h1, h2, _⟩ := dt_rd I.hok e
    exact ⟨ob, h1, h2.2.1⟩

def tDGet (td ty : TE) : TE := fun σ H Q => td σ H fun x H1 => ty σ H1 fun y H2 => ∃ a v, x = .ref a ∧ DGet H2 a y (some v) ∧ Q v H2
def tDIn (ty td : TE) : TE := fun σ H Q => ty σ H fun y H1 => td σ H1 fun x H2 => ∃ a o, x = .ref a ∧ DGet H2 a y o ∧ Q (.bl o.isSome) H2
def tDNotIn (ty td : TE) : TE := fun σ H Q => ty σ H fun y H1 => td σ H1 fun x H2 => ∃ a o, x = .ref a ∧ DGet H2 a y o ∧ Q (.bl (!o.isSome)) H2
def sDPut (td ty tv : TE) : TS := fun D σ H => tv σ H fun v H1 => td σ H1 fun x H2 => ty σ H2 fun y H3 => ∃ a H4, x = .ref a ∧ DPut H3 a y v H4 ∧ D.nx σ H4
def sDAug (td ty tv : TE) (rd : V → V → Hp → VK → Prop) : TS := fun D σ H => td σ H fun x H1 => ty σ H1 fun y H2 => ∃ a v, x = .ref a ∧ DGet H2 a y (some v) ∧
  tv σ H2 fun y2 H3 => rd v y2 H3 fun z H4 => ∃ H5, DPut H4 a y z H5 ∧ D.nx σ H5
def sDDel (td ty : TE) : TS := fun D σ H => td σ H fun x H1 => ty σ H1 fun y H2 => ∃ a kvs k, x = .ref a ∧ H2 a = some (.dK kvs) ∧ y = kV k ∧ (valV kvs k).isSome = true ∧ D.nx σ (upd H2 a (.dK (dropK kvs k)))

section
variable {X : Cx} {o i e value : Expr} {pos pos' tpos : Pos} {td ty tv : TE}
theorem pe_dget (hu : X.A.units + 1 < cLine) (ho : PE X o td) (hi : PE X i ty) (hs : NoSl i) : PE X (.Subscript o i pos) (tDGet td ty) := by
  intro pins s σ H Q I h
  refine subD_of PySem.F.slot_dict_getitem.lookup hs (thn (ho pins s σ H _ I h) fun u s1 ⟨x, H1, I1, rx, q1⟩ => thn (hi pins s1 σ H1 _ I1 q1) fun iv s2 ⟨y, H2, I2, ry, a, v, ex, g, q2⟩ => ?_)
  subst ex
  obtain rfl : u = Value.ref a := rx
  exact ⟨dict_typeIs I2 g, d_getItem hu I2 g ry fun w' s3 I3 rw' => ⟨v, H2, I3, rw', q2⟩⟩
theorem pc_din (hu : X.A.units + 1 < cLine) (hi : PE X i ty) (ho : PE X o td) : PC X .In i o (tDIn ty td) := by
  intro pins s σ H Q I h
  refine thn (hi pins s σ H _ I h) fun iv s1 ⟨y, H1, I1, ry, q1⟩ => thn (ho pins s1 σ H1 _ I1 q1) fun u s2 ⟨x, H2, I2, rx, a, ov, ex, g, q2⟩ => ?_
  subst ex
  obtain rfl : u = Value.ref a := rx
  exact d_in hu I2 g ry fun s3 I3 => ⟨.bl ov.isSome, H2, I3, rfl, q2⟩
theorem pc_dnotin (hu : X.A.units + 1 < cLine) (hi : PE X i ty) (ho : PE X o td) : PC X .NotIn i o (tDNotIn ty td) := by
  intro pins s σ H Q I h
  refine thn (hi pins s σ H _ I h) fun iv s1 ⟨y, H1, I1, ry, q1⟩ => thn (ho pins s1 σ H1 _ I1 q1) fun u s2 ⟨x, H2, I2, rx, a, ov, ex, g, q2⟩ => ?_
  subst ex
  obtain rfl : u = Value.ref a := rx
  exact d_notIn hu I2 g ry fun s3 I3 => ⟨.bl (!ov.isSome), H2, I3, rfl, q2⟩
theorem ps_dput (hu : X.A.units + 1 < cLine) (ho : PE X o td) (hi : PE X i ty) (hv : PE X value tv) (hs : swapsWith value (some (.Subscript o i pos')) pos.line X.env = pure false) :
    PS X (.Assign [.Subscript o i pos'] value pos) (sDPut td ty tv) := by
  intro pins s σ H D I h
  refine wpAny_Assign_Subscript (thn (hv pins s σ H _ I h) fun r s1 ⟨v, H1, I1, rv, q1⟩ => thn (ho pins s1 σ H1 _ I1 q1) fun u s2 ⟨x, H2, I2, rx, q2⟩ => thn (hi pins s2 σ H2 _ I2 q2) fun iv s3 ⟨y, H3, I3, ry, a, H4, ex, g, q3⟩ => ?_) hs
  subst ex
  obtain rfl : u = Value.ref a := rx
  exact d_setItem hu I3 g ry rv fun s4 I4 => ⟨σ, H4, I4, q3⟩
theorem ps_daug {op : Operator} {rd : V → V → Hp → VK → Prop} (hu : X.A.units + 1 < cLine) (ho : PE X o td) (hi : PE X i ty) (hv : PE X value tv) (hop : InOp X op rd)
    (ha : ∀ ov iv new, augStore i ov iv new = (do holding [new, ov, iv] (setItem ov iv new); release [new, ov, iv] []; pure .next)) : PS X (.AugAssign (.Subscript o i tpos) op value pos) (sDAug td ty tv rd) := by
  intro pins s σ H D I h
  refine wpAny_AugAssign_SubscriptAny (thn (ho pins s σ H _ I h) fun u s1 ⟨x, H1, I1, rx, q1⟩ => thn (hi pins s1 σ H1 _ I1 q1) fun iv s2 ⟨y, H2, I2, ry, a, v, ex, g, q2⟩ => ?_) ha
  subst ex
  obtain rfl : u = Value.ref a := rx
  refine d_getItem hu I2 g ry fun w' s3 I3 rw' => thn (hv pins s3 σ H2 _ I3 q2) fun w2 s4 ⟨y2, H3, I4, ry2, q3⟩ => thn (hop pins s4 σ H3 v y2 w' w2 _ I4 rw' ry2 q3) fun w3 s5 ⟨z, H4, I5, rz, H5, g5, q4⟩ => ?_
  exact d_setItem hu I5 g5 ry rz fun s6 I6 => ⟨σ, H5, I6, q4⟩
theorem ps_ddel (ho : PE X o td) (hi : PE X i ty) : PS X (.Delete [.Subscript o i tpos] pos) (sDDel td ty) := by
  intro pins s σ H D I h
  refine wpAny_Delete (wpAny_deleteEach_cons (wpAny_delete_Subscript (thn (ho pins s σ H _ I h) fun u s1 ⟨x, H1, I1, rx, q1⟩ => thn (hi pins s1 σ H1 _ I1 q1) fun iv s2 ⟨y, H2, I2, ry, a, kvs, k, ex, e, ey, l, q2⟩ => ?_)))
  subst ex ey
  obtain rfl : u = Value.ref a := rx
  exact d_delItem I2 e ry l fun s3 I3 => wpAny_deleteEach_nil ⟨σ, _, I3, q2⟩
end


theorem dk_empty {P : Program} {w : World} {H : Hp} (h : Heap) (hb : sysModules < h.objs.size) : ObjOk P w H (h.push { cls := .type "dict", data := .dict #[] }) h.objs.size (.dK []) :=
  ⟨Nat.zero_le _, beq_eq_false_iff_ne.mpr (Ne.symm (Nat.ne_of_lt hb)), [], .nil, Heap.DictOf.new h⟩
theorem dt_empty {P : Program} {w : World} {H : Hp} (h : Heap) (hb : sysModules < h.objs.size) : ObjOk P w H (h.push { cls := .type "dict", data := .dict #[] }) h.objs.size (.dT []) :=
  ⟨Nat.zero_le _, beq_eq_false_iff_ne.mpr (Ne.symm (Nat.ne_of_lt hb)), [], .nil, _, #[], 0, Heap.get?_push_size _ rfl, ⟨rfl, rfl, rfl⟩, rfl, rfl, List.nodup_nil⟩
def tDNewK : TE := fun _ H Q => ∀ p, H p = none → Q (.ref p) (upd H p (.dK []))
def tDNewT : TE := fun _ H Q => ∀ p, H p = none → Q (.ref p) (upd H p (.dT []))
section
variable {X : Cx} {pos : Pos}
theorem pe_dnewK : PE X (.Dict [] [] pos) tDNewK := fun pins s σ H Q I h =>
  wpAny_Dict_empty ⟨.ref s.heap.objs.size, _, I.laid (a := s.heap.objs.size) (o := .dK []) (t' := s.toks) (fun _ _ q => Heap.get?_push_of_some _ q) (Nat.le_refl _) (dk_empty s.heap I.big), rfl, h _ (I.hok.fresh (Nat.le_refl _))⟩
theorem pe_dnewT : PE X (.Dict [] [] pos) tDNewT := fun pins s σ H Q I h =>
  wpAny_Dict_empty ⟨.ref s.heap.objs.size, _, I.laid (a := s.heap.objs.size) (o := .dT []) (t' := s.toks) (fun _ _ q => Heap.get?_push_of_some _ q) (Nat.le_refl _) (dt_empty s.heap I.big), rfl, h _ (I.hok.fresh (Nat.le_refl _))⟩
end

def tPairs : List (TE × TE) → St → Hp → (List (V × V) → Hp → Prop) → Prop
  | [], _, H, Q => Q [] H
  | (tk, tv) :: r, σ, H, Q => tk σ H fun x H1 => tv σ H1 fun y H2 => tPairs r σ H2 fun ps H3 => Q ((x, y) :: ps) H3
abbrev VV : List (V × V) → List (Value × Value) → Prop := Paired fun p q => RelV p.1 q.1 ∧ RelV p.2 q.2
def PPs (X : Cx) (pos : Pos) (keys : List (Option Expr)) (values : List Expr) (trs : List (TE × TE)) : Prop :=
  ∀ (pins : List (Addr × Obj)) (s : Shared) (σ : St) (H : Hp) (Q : List (V × V) → Hp → Prop), Inv X pins σ H s → tPairs trs σ H Q →
    wpAny (model X.prog X.w) X.A (evalPairs (pairTrees keys values X.env pos)) (fun vs s' => ∃ ps H', Inv X pins σ H' s' ∧ VV ps vs ∧ Q ps H') X.xe s
theorem pps_nil {X : Cx} {pos : Pos} : PPs X pos [] [] [] := fun pins s σ H Q I h => pairTrees_nil_walk ⟨[], H, I, .nil, h⟩
theorem pps_cons {X : Cx} {pos : Pos} {k v : Expr} {ks : List (Option Expr)} {vs : List Expr} {tk tv : TE} {trs : List (TE × TE)} (hk : PE X k tk) (hv : PE X v tv) (hr : PPs X pos ks vs trs) :
    PPs X pos (some k :: ks) (v :: vs) ((tk, tv) :: trs) := fun pins s σ H Q I h =>
  pairTrees_cons_walk (thn (hk pins s σ H _ I h) fun u s1 ⟨x, H1, I1, rx, q1⟩ => thn (hv pins s1 σ H1 _ I1 q1) fun w2 s2 ⟨y, H2, I2, ry, q2⟩ =>
    thn (hr pins s2 σ H2 _ I2 q2) fun ws s3 ⟨ps, H3, I3, rel, q3⟩ => ⟨(x, y) :: ps, H3, I3, .cons ⟨rx, ry⟩ rel, q3⟩)

def mergeK (kvs more : List (Key × V)) : List (Key × V) := more.foldl (fun acc kv => putK acc kv.1 kv.2) kvs
theorem KV.merge : ∀ {more : List (Key × V)} {rs : List (Key × Value)} {kvs : List (Key × V)} {vs : List (Key × Value)}, KV more rs → KV kvs vs → KV (mergeK kvs more) (merged vs rs) := by
  intro more rs kvs vs r
  unfold KV at r
  induction r generalizing kvs vs with
  | nil => intro q; exact q
  | @cons p q ps qs h t ih =>
    intro r0
    have e : KV (putK kvs p.1 p.2) (stored vs q.1 q.2) := by
      have := r0.put p.1 h.2
      rw [← h.1]; exact this
    exact ih e
theorem length_mergeK : ∀ (more kvs : List (Key × V)), (mergeK kvs more).length ≤ kvs.length + more.length
  | [], kvs => by show kvs.length ≤ kvs.length + 0; omega
  | p :: r, kvs => by
    have h1 := length_mergeK r (putK kvs p.1 p.2)
    have h2 := length_putK kvs p.1 p.2
    show (mergeK (putK kvs p.1 p.2) r).length ≤ _
    rw [List.length_cons]; omega
theorem carries_of {P : Program} {w : World} : ∀ {kvs : List (Key × V)} {ws : List (Value × Value)}, VV (kvs.map fun kv => (kV kv.1, kv.2)) ws → ∃ rs, Carries (mixKind P w) ws rs ∧ KV kvs rs
  | [], _, r => by rw [List.map_nil] at r; cases r; exact ⟨[], True.intro, .nil⟩
  | p :: kvs, _, r => by
    rw [List.map_cons] at r
    cases r with
    | @cons a b as bs h t =>
      obtain ⟨rs, c, q⟩ := carries_of (P := P) (w := w) t
      obtain ⟨b1, b2⟩ := b
      exact ⟨(p.1, b2) :: rs, ⟨kV_is h.1, rfl, c⟩, .cons ⟨rfl, h.2⟩ q⟩
def tDisp (trs : List (TE × TE)) : TE := fun σ H Q => ∀ p, H p = none → tPairs trs σ (upd H p (.dK [])) fun ps H2 => H2 p = some (.dK []) ∧ ∃ kvs : List (Key × V), ps = kvs.map (fun kv => (kV kv.1, kv.2)) ∧ kvs.length ≤ 15 ∧ Q (.ref p) (upd H2 p (.dK (mergeK [] kvs)))
theorem pe_disp {X : Cx} {pos : Pos} {keys : List (Option Expr)} {values : List Expr} {trs : List (TE × TE)} (h : PPs X pos keys values trs) (hall : keys.all (·.isSome) = true) (hl : keys.length = values.length) (h0 : keys ≠ [])
    (h15 : keys.length ≤ 15) : PE X (.Dict keys values pos) (tDisp trs) := by
  intro pins s σ H Q I q
  have hn := I.hok.fresh (Nat.le_refl s.heap.objs.size)
  have I1 := I.laid (a := s.heap.objs.size) (o := .dK []) (h' := s.heap.push { cls := .type "dict", data := .dict #[] }) (t' := s.toks) (fun _ _ q => Heap.get?_push_of_some _ q) (Nat.le_refl _) (dk_empty s.heap I.big)
  refine wpAny_Dict_walk (knd := mixKind X.prog X.w) hall hl h0 h15 (thn (h pins _ σ _ _ I1 (q _ hn)) fun ws s2 ⟨ps, H2, I2, rel, e, kvs, ep, lk, q2⟩ => ?_)
  subst ep
  obtain ⟨rs, c, rk⟩ := carries_of (P := X.prog) (w := X.w) rel
  obtain ⟨z, hd, vs0, r0, dd⟩ := dk_of I2.hok e
  cases r0
  refine ⟨rs, c, dd, fun h' dd' hs => ⟨.ref s.heap.objs.size, _, ?_, rfl, q2⟩⟩
  have hz : (mergeK [] kvs).length ≤ sizeLine := by
    have h1 := length_mergeK kvs []
    rw [List.length_nil] at h1
    rw [sizeLine_eq]; omega
  have he : ∃ q, h'.get? s.heap.objs.size = some q := let ⟨q, _, _, hq, _⟩ := dd'; ⟨q, hq⟩
  exact d_write I2 (by rw [e]; exact True.intro) hs he (dk_new hz hd (rk.merge .nil) dd')


structure M1 (X : Cx) (o : Expr) (m : Str) (apos : Pos) (e : Expr) (cpos : Pos) : Prop where
  base : attributeBase o m X.env (eval o X.env) = eval o X.env
  few : ((backTo cpos (starEach [e] X.env)).all (fun x => !x.1) && (backToKw cpos (keywordEach [] X.env)).all (fun x => x.1.isSome)
    && decide (([e] : List Expr).length + ([] : List Keyword).length + (if ([] : List Keyword).isEmpty then 0 else 1) < 30)) = true
  line : (apos.endLine == cpos.line) = true
  trees : backTo cpos (starEach [e] X.env) = [(false, eval e X.env)]
structure M2 (X : Cx) (o : Expr) (m : Str) (apos : Pos) (e f : Expr) (cpos : Pos) : Prop where
  base : attributeBase o m X.env (eval o X.env) = eval o X.env
  few : ((backTo cpos (starEach [e, f] X.env)).all (fun x => !x.1) && (backToKw cpos (keywordEach [] X.env)).all (fun x => x.1.isSome)
    && decide (([e, f] : List Expr).length + ([] : List Keyword).length + (if ([] : List Keyword).isEmpty then 0 else 1) < 30)) = true
  line : (apos.endLine == cpos.line) = true
  trees : backTo cpos (starEach [e, f] X.env) = [(false, eval e X.env), (false, eval f X.env)]

def IsD (H : Hp) (a : Addr) : Prop := (∃ kvs, Rd H a (.dK kvs)) ∨ ∃ kvs, Rd H a (.dT kvs)
theorem isD_at {X : Cx} {pins : List (Addr × Obj)} {σ : St} {H : Hp} {s : Shared} {a : Addr} (I : Inv X pins σ H s) (d : IsD H a) :
    s.TypeIs (.ref a) "dict" ∧ (∀ b, Value.ref a = .ref b → ∃ ob, s.heap.get? b = some ob ∧ ob.dict = none) ∧ (a == sysModules) = false := by
  rcases d with ⟨kvs, e⟩ | ⟨kvs, e⟩
  · obtain ⟨_, hd, vs, _, dd⟩ := dk_rd I.hok e
    refine ⟨dd.typeIs, fun b q => ?_, hd⟩
    cases q
    obtain ⟨ob, _, _, h1, h2, _⟩ := dd
    exact ⟨ob, h1, h2.2.1⟩
  · obtain ⟨_, hd, xs, _, dd⟩ := dt_rd I.hok e
    refine ⟨dd.typeIs, fun b q => ?_, hd⟩
    cases q
    obtain ⟨ob, _, _, h1, h2, _⟩ := dd
    exact ⟨ob, h1, h2.2.1⟩

section
variable {X : Cx} {pins : List (Addr × Obj)} {σ : St} {H : Hp} {s : Shared} {a : Addr} {y d : V} {u r : Value} {o : Option V} {A : Around} {E : Value → Shared → Prop}
theorem d_get1 {Q : Value → Shared → Prop} (hu : A.units + 1 < cLine) (I : Inv X pins σ H s) (g : DGet H a y o) (ry : RelV y u) (h : ∀ w' s', Inv X pins σ H s' → RelV (o.getD .non) w' → Q w' s') :
    wpAny (model X.prog X.w) A (call (.builtin "dict.get") [.ref a, u]) Q E s := by
  rcases g with ⟨kvs, k, e, ey, l⟩ | ⟨kvs, k, b, e, ey, eb, l⟩
  · subst ey
    obtain ⟨z, hd, vs, rel, dd⟩ := dk_rd I.hok e
    refine call_meetsIn PySem.F.slot_dict_get dd.typeIs PySem.F.entry_dict_get (PySem.F.args_dict_get_2 _ _) (meets_dict_get (mixKind X.prog X.w) a (kV_is ry) hd) ⟨_, dd.mapOf, h _ _ (I.tok _) ?_⟩
    rw [l]
    exact (rel.val k).getD rfl
  · subst ey
    cases (show u = Value.ref b from ry)
    obtain ⟨z, hd, xs, rel, dd⟩ := dt_rd I.hok e
    refine call_meetsIn PySem.F.slot_dict_get dd.typeIs PySem.F.entry_dict_get (PySem.F.args_dict_get_2 _ _) (meetsH_dict_get (tupleKind (mixKind X.prog X.w)) a b hd) ⟨tupleKind_room_in1 hu, k, xs, key_of I.hok eb, dd, h _ _ (I.tok _) ?_⟩
    rw [l]
    exact (rel.val k).getD rfl
theorem d_get2 {Q : Value → Shared → Prop} (hu : A.units + 1 < cLine) (I : Inv X pins σ H s) (g : DGet H a y o) (ry : RelV y u) (rd : RelV d r) (h : ∀ w' s', Inv X pins σ H s' → RelV (o.getD d) w' → Q w' s') :
    wpAny (model X.prog X.w) A (call (.builtin "dict.get") [.ref a, u, r]) Q E s := by
  rcases g with ⟨kvs, k, e, ey, l⟩ | ⟨kvs, k, b, e, ey, eb, l⟩
  · subst ey
    obtain ⟨z, hd, vs, rel, dd⟩ := dk_rd I.hok e
    refine call_meetsIn PySem.F.slot_dict_get dd.typeIs PySem.F.entry_dict_get (PySem.F.args_dict_get_3 _ _ _) (meets_dict_get_default (mixKind X.prog X.w) a (kV_is ry) hd r) ⟨_, dd.mapOf, h _ _ (I.tok _) ?_⟩
    rw [l]
    exact (rel.val k).getD rd
  · subst ey
    cases (show u = Value.ref b from ry)
    obtain ⟨z, hd, xs, rel, dd⟩ := dt_rd I.hok e
    refine call_meetsIn PySem.F.slot_dict_get dd.typeIs PySem.F.entry_dict_get (PySem.F.args_dict_get_3 _ _ _) (meetsH_dict_get_default (tupleKind (mixKind X.prog X.w)) a b hd r) ⟨tupleKind_room_in1 hu, k, xs, key_of I.hok eb, dd, h _ _ (I.tok _) ?_⟩
    rw [l]
    exact (rel.val k).getD rd
end

def tDGet1 (td ty : TE) : TE := fun σ H Q => td σ H fun x H1 => ∃ a, x = .ref a ∧ IsD H1 a ∧ ty σ H1 fun y H2 => ∃ o, DGet H2 a y o ∧ Q (o.getD .non) H2
def tDGet2 (td ty tx : TE) : TE := fun σ H Q => td σ H fun x H1 => ∃ a, x = .ref a ∧ IsD H1 a ∧ ty σ H1 fun y H2 => tx σ H2 fun z H3 => ∃ o, DGet H3 a y o ∧ Q (o.getD z) H3
def tDPop1 (td ty : TE) : TE := fun σ H Q => td σ H fun x H1 => ∃ a, x = .ref a ∧ IsD H1 a ∧ ty σ H1 fun y H2 => ∃ kvs k v, H2 a = some (.dK kvs) ∧ y = kV k ∧ valV kvs k = some v ∧ Q v (upd H2 a (.dK (dropK kvs k)))
def tDPop2 (td ty tx : TE) : TE := fun σ H Q => td σ H fun x H1 => ∃ a, x = .ref a ∧ IsD H1 a ∧ ty σ H1 fun y H2 => tx σ H2 fun z H3 => ∃ kvs k, H3 a = some (.dK kvs) ∧ y = kV k ∧
  (∀ v, valV kvs k = some v → Q v (upd H3 a (.dK (dropK kvs k)))) ∧ (valV kvs k = none → Q z H3)
section
variable {X : Cx} {o e f : Expr} {apos cpos : Pos} {td ty tx : TE}
theorem pe_dget1 (hu : X.A.units + 1 < cLine) (ho : PE X o td) (he : PE X e ty) (m : M1 X o "get" apos e cpos) : PE X (.Call (.Attribute o "get" apos) [e] [] cpos) (tDGet1 td ty) := by
  intro pins s σ H Q I h
  refine wpAny_Call_method m.base m.few m.line PySem.F.plainAttrs_dict PySem.F.slot_dict_get PySem.F.type_dict_get (thn (ho pins s σ H _ I h) fun u s1 ⟨x, H1, I1, rx, a, ex, d, q1⟩ => ?_)
  subst ex
  obtain rfl : u = Value.ref a := rx
  obtain ⟨t1, t2, _⟩ := isD_at I1 d
  refine ⟨t1, t2, ?_⟩
  rw [m.trees]
  refine Calls.callWith_builtin rfl (Calls.evalArgs_plain (Calls.spliced_cons (thn (he pins s1 σ H1 _ I1 q1) fun iv s2 ⟨y, H2, I2, ry, ov, g, q2⟩ => Calls.spliced_nil ?_)))
  exact d_get1 hu I2 g ry fun w' s3 I3 rw' => ⟨_, H2, I3, rw', q2⟩
theorem pe_dget2 (hu : X.A.units + 1 < cLine) (ho : PE X o td) (he : PE X e ty) (hf : PE X f tx) (m : M2 X o "get" apos e f cpos) : PE X (.Call (.Attribute o "get" apos) [e, f] [] cpos) (tDGet2 td ty tx) := by
  intro pins s σ H Q I h
  refine wpAny_Call_method m.base m.few m.line PySem.F.plainAttrs_dict PySem.F.slot_dict_get PySem.F.type_dict_get (thn (ho pins s σ H _ I h) fun u s1 ⟨x, H1, I1, rx, a, ex, d, q1⟩ => ?_)
  subst ex
  obtain rfl : u = Value.ref a := rx
  obtain ⟨t1, t2, _⟩ := isD_at I1 d
  refine ⟨t1, t2, ?_⟩
  rw [m.trees]
  refine Calls.callWith_builtin rfl (Calls.evalArgs_plain (Calls.spliced_cons (thn (he pins s1 σ H1 _ I1 q1) fun iv s2 ⟨y, H2, I2, ry, q2⟩ =>
    Calls.spliced_cons (thn (hf pins s2 σ H2 _ I2 q2) fun fv s3 ⟨z, H3, I3, rz, ov, g, q3⟩ => Calls.spliced_nil ?_))))
  exact d_get2 hu I3 g ry rz fun w' s4 I4 rw' => ⟨_, H3, I4, rw', q3⟩
theorem pe_dpop1 (ho : PE X o td) (he : PE X e ty) (m : M1 X o "pop" apos e cpos) : PE X (.Call (.Attribute o "pop" apos) [e] [] cpos) (tDPop1 td ty) := by
  intro pins s σ H Q I h
  refine wpAny_Call_method m.base m.few m.line PySem.F.plainAttrs_dict PySem.F.slot_dict_pop PySem.F.type_dict_pop (thn (ho pins s σ H _ I h) fun u s1 ⟨x, H1, I1, rx, a, ex, d, q1⟩ => ?_)
  subst ex
  obtain rfl : u = Value.ref a := rx
  obtain ⟨t1, t2, _⟩ := isD_at I1 d
  refine ⟨t1, t2, ?_⟩
  rw [m.trees]
  refine Calls.callWith_builtin rfl (Calls.evalArgs_plain (Calls.spliced_cons (thn (he pins s1 σ H1 _ I1 q1) fun iv s2 ⟨y, H2, I2, ry, kvs, k, v, ea, ey, l, q2⟩ => Calls.spliced_nil ?_)))
  subst ey
  exact d_pop I2 ea ry l (.inl rfl) fun w' s3 I3 rw' => ⟨v, _, I3, rw', q2⟩
theorem pe_dpop2 (ho : PE X o td) (he : PE X e ty) (hf : PE X f tx) (m : M2 X o "pop" apos e f cpos) : PE X (.Call (.Attribute o "pop" apos) [e, f] [] cpos) (tDPop2 td ty tx) := by
  intro pins s σ H Q I h
  refine wpAny_Call_method m.base m.few m.line PySem.F.plainAttrs_dict PySem.F.slot_dict_pop PySem.F.type_dict_pop (thn (ho pins s σ H _ I h) fun u s1 ⟨x, H1, I1, rx, a, ex, d, q1⟩ => ?_)
  subst ex
  obtain rfl : u = Value.ref a := rx
  obtain ⟨t1, t2, _⟩ := isD_at I1 d
  refine ⟨t1, t2, ?_⟩
  rw [m.trees]
  refine Calls.callWith_builtin rfl (Calls.evalArgs_plain (Calls.spliced_cons (thn (he pins s1 σ H1 _ I1 q1) fun iv s2 ⟨y, H2, I2, ry, q2⟩ =>
    Calls.spliced_cons (thn (hf pins s2 σ H2 _ I2 q2) fun fv s3 ⟨z, H3, I3, rz, kvs, k, ea, ey, q3, q4⟩ => Calls.spliced_nil ?_))))
  subst ey
  cases l : valV kvs k with
  | some v => exact d_pop I3 ea ry l (.inr ⟨fv, rfl⟩) fun w' s4 I4 rw' => ⟨v, _, I4, rw', q3 v l⟩
  | none => exact d_popD I3 ea ry l fun s4 I4 => ⟨z, H3, I4, rz, q4 l⟩
end

section
variable {X : Cx} {pins : List (Addr × Obj)} {σ : St} {H : Hp} {s : Shared} {a : Addr} {kvs : List (Key × V)} {A : Around} {E : Value → Shared → Prop}
theorem d_copyOf {Q : Value → Shared → Prop} (I : Inv X pins σ H s) (e : Rd H a (.dK kvs)) (h : ∀ p s', H p = none → Inv X pins σ (upd H p (.dK kvs)) s' → Q (.ref p) s') : wpAny (model X.prog X.w) A (call (.type "dict") [.ref a]) Q E s := by
  obtain ⟨z, hd, vs, rel, dd⟩ := dk_rd I.hok e
  refine kt_call_dict hd dd (by rw [← rel.length]; exact z) fun h' dd' hs => ?_
  refine h _ _ (I.hok.fresh (Nat.le_refl _)) (I.laid (a := s.heap.objs.size) (o := .dK kvs) (t' := s.toks) (fun b q hq => ?_) (Nat.le_refl _) (dk_new z (beq_eq_false_iff_ne.mpr (Ne.symm (Nat.ne_of_lt I.big))) rel dd'))
  exact (hs.2 b (Nat.ne_of_lt (Heap.lt_size hq))).trans (Heap.get?_push_of_some _ hq)
end


section
variable {X : Cx} {pins : List (Addr × Obj)} {σ : St} {H : Hp} {s : Shared} {a : Addr} {y : V} {u : Value} {A : Around} {E : Value → Shared → Prop}
theorem d_missing {Q : Value → Shared → Prop} (hu : A.units + 1 < cLine) (hh : A.handled = none) (I : Inv X pins σ H s) (g : DGet H a y none) (ry : RelV y u)
    (h : ∀ h' e t', Heap.NewExc s.heap h' e "KeyError" → E (.ref e) { s with heap := h', toks := t' }) : wpAny (model X.prog X.w) A (getItem (.ref a) u) Q E s := by
  rcases g with ⟨kvs, k, e, ey, l⟩ | ⟨kvs, k, b, e, ey, eb, l⟩
  · subst ey
    obtain ⟨z, hd, vs, rel, dd⟩ := dk_rd I.hok e
    have hn : valueAt vs k = none := RelO.none_of (by rw [l]; exact rel.val k)
    exact wpAny_getItem_missing_of (kV_is ry) hd hh dd.mapOf hn fun h' ex ne => h h' ex _ ne
  · subst ey
    cases (show u = Value.ref b from ry)
    obtain ⟨z, hd, xs, rel, dd⟩ := dt_rd I.hok e
    have hn : (atKey xs k).map (·.2) = none := RelO.none_of (by rw [l]; exact rel.val k)
    exact wpAny_getItem_missing_heap (tupleKind_room_in1 hu) (key_of I.hok eb) hd hh dd (Option.map_eq_none_iff.mp hn) fun h' ex ne => h h' ex _ ne
end
end L2
namespace L2
open PySem PySem.Spec PyProof.Rows
section
variable {X : Cx}
theorem call_lenD : CallR X (.builtin "len") (fun xs H Q => ∃ a kvs, xs = [V.ref a] ∧ H a = some (.dK kvs) ∧ Q (.int kvs.length) H) := by
  intro pins s σ H xs us Q I r h
  obtain ⟨a, kvs, rfl, ha, q⟩ := h
  obtain ⟨u, rfl, ru⟩ := vals1 r
  cases ru
  exact d_len I (.inl ha) fun t s' I' => ⟨.int kvs.length, H, I', ⟨t, rfl⟩, q⟩
end
section
variable {κ : Type} [DecidableEq κ]
theorem valV_not {kvs : List (κ × V)} {k : κ} (h : valV kvs k = none) : ¬ k ∈ kvs.map (·.1) := by
  intro m
  obtain ⟨p, hp, e⟩ := List.mem_map.mp m
  have q : (kvs.any fun kv => decide (kv.1 = k)) = true := List.any_eq_true.mpr ⟨p, hp, decide_eq_true e⟩
  rw [valV_any, h] at q
  exact absurd q (by simp)
theorem valV_in {kvs : List (κ × V)} {k : κ} {v : V} (h : valV kvs k = some v) : k ∈ kvs.map (·.1) := by
  have q : (kvs.any fun kv => decide (kv.1 = k)) = true := by
    rw [valV_any, h]
    all_goals rfl
  obtain ⟨p, hp, e⟩ := List.any_eq_true.mp q
  exact List.mem_map.mpr ⟨p, hp, of_decide_eq_true e⟩
theorem nd_snoc : ∀ {l : List κ} {k : κ}, l.Nodup → ¬ k ∈ l → (l ++ [k]).Nodup
  | [], k, _, _ => by simp
  | a :: r, k, h, hk => by
    obtain ⟨h1, h2⟩ := List.nodup_cons.mp h
    show (a :: (r ++ [k])).Nodup
    refine List.nodup_cons.mpr ⟨fun m => ?_, nd_snoc h2 fun m => hk (List.mem_cons.mpr (Or.inr m))⟩
    rcases List.mem_append.mp m with q | q
    · exact h1 q
    · exact hk (List.mem_cons.mpr (Or.inl (List.mem_singleton.mp q).symm))
theorem nd_putK {kvs : List (κ × V)} {k : κ} (v : V) (hn : (kvs.map (·.1)).Nodup) (h : valV kvs k = none) : ((putK kvs k v).map (·.1)).Nodup := by
  rw [putK_new v h, List.map_append]
  exact nd_snoc hn (valV_not h)
theorem dropK_pos {p : κ × V} {r : List (κ × V)} {k : κ} (e : p.1 = k) : dropK (p :: r) k = dropK r k := by
  unfold dropK
  rw [List.filter_cons, if_neg (by simp [e])]
theorem dropK_neg {p : κ × V} {r : List (κ × V)} {k : κ} (e : ¬ p.1 = k) : dropK (p :: r) k = p :: dropK r k := by
  unfold dropK
  rw [List.filter_cons, if_pos (by simp [e])]
theorem dropK_no : ∀ {kvs : List (κ × V)} {k : κ}, ¬ k ∈ kvs.map (·.1) → dropK kvs k = kvs
  | [], _, _ => rfl
  | p :: r, k, h => by
    have h' : ¬ k ∈ r.map (·.1) := fun m => by
      obtain ⟨q, hq, e⟩ := List.mem_map.mp m
      exact h (List.mem_map.mpr ⟨q, List.mem_cons.mpr (Or.inr hq), e⟩)
    rw [dropK_neg fun e => h (List.mem_map.mpr ⟨p, List.mem_cons.mpr (Or.inl rfl), e⟩), dropK_no h']
theorem dropK_mem {kvs : List (κ × V)} {k : κ} {p : κ × V} (h : p ∈ dropK kvs k) : p ∈ kvs := (List.mem_filter.mp h).1
theorem nd_dropK : ∀ {kvs : List (κ × V)} {k : κ}, (kvs.map (·.1)).Nodup → ((dropK kvs k).map (·.1)).Nodup
  | [], _, _ => List.nodup_nil
  | p :: r, k, h => by
    have h : (p.1 :: r.map (·.1)).Nodup := h
    obtain ⟨h1, h2⟩ := List.nodup_cons.mp h
    by_cases e : p.1 = k
    · rw [dropK_pos e]
      exact nd_dropK h2
    · rw [dropK_neg e]
      show (p.1 :: (dropK r k).map (·.1)).Nodup
      refine List.nodup_cons.mpr ⟨fun m => h1 ?_, nd_dropK h2⟩
      obtain ⟨q, hq, eq⟩ := List.mem_map.mp m
      exact List.mem_map.mpr ⟨q, dropK_mem hq, eq⟩
theorem dropK_len : ∀ {kvs : List (κ × V)} {k : κ}, (kvs.map (·.1)).Nodup → k ∈ kvs.map (·.1) → (dropK kvs k).length + 1 = kvs.length
  | [], _, _, m => by simp at m
  | p :: r, k, h, m => by
    have h : (p.1 :: r.map (·.1)).Nodup := h
    have m : k = p.1 ∨ k ∈ r.map (·.1) := List.mem_cons.mp m
    obtain ⟨h1, h2⟩ := List.nodup_cons.mp h
    by_cases e : p.1 = k
    · subst e
      rw [dropK_pos rfl, dropK_no h1]
      all_goals rfl
    · have m' : k ∈ r.map (·.1) := m.resolve_left fun z => e z.symm
      have q := dropK_len h2 m'
      rw [dropK_neg e, List.length_cons, List.length_cons]
      omega
end
end L2

set_option Elab.async false
set_option linter.all false
set_option maxRecDepth 100000
namespace L2
open PySem PySem.Spec PyProof.Rows
structure Cal (P : Program) (w : World) (K : PySem.W.Frag) (mg : Str → Option Value) (base : Heap) (CX : CXT) (k : Nat) (x : Str) (ps : List Str) (sp : Sp) : Prop where
  ex : ∃ f fd, FnOk P w K mg base CX k f fd ps sp ∧ Binds K fd ps [] ∧ PySem.W.keepIn K (.ref f) = true ∧ mg x = some (.ref f)
def GC (mg : Str → Option Value) (x : Str) (v : V) : Prop := ∃ u, mg x = some u ∧ RelV v u
section
variable {X : Cx} {CX : CXT} {j k : Nat} {ps : List Str} {sp : Sp} {E : XK} {x : Str} {v : V} {p pos : Pos} {e : Expr} {es : List Expr} {t : TA}
theorem pe_fn (c : Cal X.prog X.w X.K X.mg X.base CX k x ps sp) (hr : Room j X.A) (hx : Passes CX X E) (ha : PA X (e :: es) t) (hk : k ≤ j := by decide) (hg : Gl X x := by rfl) (hdb : (x == ("__debug__" : Str)) = false := by decide)
    (he : starEach (e :: es) X.env = (false, eval e X.env) :: starEach es X.env := by rfl) (hpl : (backTo pos (starEach es X.env)).any (·.1) = false := by rfl) :
    PE X (.Call (.Name x p) (e :: es) [] pos) (tCall sp [] E t) := by
  obtain ⟨f, fd, F, b, kp, m⟩ := c.ex
  exact pe_call F (hr.mono hk) hg m kp b .nil hx ha hdb he hpl
theorem pe_fn0 (c : Cal X.prog X.w X.K X.mg X.base CX k x ps sp) (hr : Room j X.A) (hx : Passes CX X E) (hk : k ≤ j := by decide) (hg : Gl X x := by rfl) (hdb : (x == ("__debug__" : Str)) = false := by decide) :
    PE X (.Call (.Name x p) [] [] pos) (tCall sp [] E tNil) := by
  obtain ⟨f, fd, F, b, kp, m⟩ := c.ex
  exact pe_call0 F (hr.mono hk) hg m kp b .nil hx hdb
theorem pe_gc (h : GC X.mg x v) (hg : Gl X x := by rfl) (hd : (x == ("__debug__" : Str)) = false := by decide) : PE X (.Name x pos) (tC v) := by
  obtain ⟨u, m, r⟩ := h
  exact pe_glob hg m r hd
def CDivW (i j : Int) : Prop := 0 < j ∧ j < 2 ^ 200
theorem op_fdivW : OpR X (binaryOp .FloorDiv) (rI CDivW fun i j => .int (i / j)) := opI fun i j _ _ _ _ _ hc q => by
  have h1 : (0 : Int) < j := hc.1
  have h2 : j < 2 ^ 200 := hc.2
  have h3 : j.natAbs < 2 ^ 200 := by omega
  have h4 : j.natAbs.log2 < 200 := (Nat.log2_lt (by omega)).mpr h3
  exact floordiv_int (by omega) (by rw [Int.fdiv_eq_ediv_of_nonneg i (by omega)]; exact q) (.inl (PyProof.noPylong_of_log2 (by omega)))
end

mutual
inductive DV (K : PySem.W.Frag) (H : Hp) : V → PyData → Prop
  | non : DV K H .non .none
  | bl (b : Bool) : DV K H (.bl b) (.bool b)
  | int (i : Int) : DV K H (.int i) (.int i)
  | str (x : Str) : DV K H (.str x) (.str x)
  | tup {a xs ds} : SqT K H a xs → DVs K H xs ds → DV K H (.ref a) (.tuple ds)
  | lst {a xs ds} : SqL K H a xs → DVs K H xs ds → DV K H (.ref a) (.list ds)
inductive DVs (K : PySem.W.Frag) (H : Hp) : List V → List PyData → Prop
  | nil : DVs K H [] []
  | cons {x xs d ds} : DV K H x d → DVs K H xs ds → DVs K H (x :: xs) (d :: ds)
end
section
variable {X : Cx} {pins : List (Addr × Obj)} {σ : St} {H : Hp} {s : Shared}
mutual
theorem DV.reads (I : Inv X pins σ H s) : ∀ {x : V} {d : PyData} {u : Value}, DV X.K H x d → RelV x u → ∃ as, Reads s.heap u d as
  | _, _, _, .non, r => by cases r; exact ⟨_, Reads.none⟩
  | _, _, _, .bl b, r => by cases r; exact ⟨_, Reads.bool b⟩
  | _, _, _, .int i, r => by obtain ⟨t, rfl⟩ := r; exact ⟨_, Reads.int i t⟩
  | _, _, _, .str x, r => by obtain ⟨t, rfl⟩ := r; exact ⟨_, Reads.str x t⟩
  | _, _, _, .tup h hs, r => by
    cases r
    obtain ⟨its, rs, ⟨o, ho, hc, n, hd⟩, _⟩ := I.tuple h
    obtain ⟨as, q⟩ := DVs.reads I hs rs
    exact ⟨_, reads_tuple_at ho hc hd (by simpa using q)⟩
  | _, _, _, .lst h hs, r => by
    cases r
    obtain ⟨its, rs, ⟨o, n, ho, hc, _, hd⟩, _⟩ := I.list h
    obtain ⟨as, q⟩ := DVs.reads I hs rs
    exact ⟨_, reads_list_at ho hc hd (by simpa using q)⟩
theorem DVs.reads (I : Inv X pins σ H s) : ∀ {xs : List V} {ds : List PyData} {us : List Value}, DVs X.K H xs ds → Vals xs us → ∃ as, ReadsAll s.heap us ds as
  | _, _, _, .nil, .nil => ⟨_, ReadsAll.nil⟩
  | _, _, _, .cons h hs, .cons r rs => by
    obtain ⟨as, q⟩ := DV.reads I h r
    obtain ⟨bs, p⟩ := DVs.reads I hs rs
    exact ⟨_, ReadsAll.cons q p⟩
end
def rEqD (K : PySem.W.Frag) : R2 := fun x y H Q => ∃ d e, DV K H x d ∧ DV K H y e ∧ SeqAt.shaped d = true ∧ SeqAt.shaped e = true ∧ Q (.bl (PyData.eqv d e)) H
def rNeD (K : PySem.W.Frag) : R2 := fun x y H Q => ∃ d e, DV K H x d ∧ DV K H y e ∧ SeqAt.shaped d = true ∧ SeqAt.shaped e = true ∧ Q (.bl (!PyData.eqv d e)) H
theorem op_eqD (hu : X.A.units + 64 < cLine) : OpR X (compareOp .Eq) (rEqD X.K) := by
  intro pins s σ H x y v u Q I rx ry h
  obtain ⟨d, e, hd, he, sd, se, q⟩ := h
  obtain ⟨as, ra⟩ := hd.reads I rx
  obtain ⟨bs, rb⟩ := he.reads I ry
  exact eq_dataH ra rb sd se hu ⟨.bl _, H, I, rfl, q⟩
theorem op_neD (hu : X.A.units + 64 < cLine) : OpR X (compareOp .NotEq) (rNeD X.K) := by
  intro pins s σ H x y v u Q I rx ry h
  obtain ⟨d, e, hd, he, sd, se, q⟩ := h
  obtain ⟨as, ra⟩ := hd.reads I rx
  obtain ⟨bs, rb⟩ := he.reads I ry
  exact ne_dataH ra rb sd se hu ⟨.bl _, H, I, rfl, q⟩
end
theorem Same.tup {K : PySem.W.Frag} {H H' : Hp} {a : Addr} {xs : List V} (e : Same H H') (h : SqT K H a xs) : SqT K H' a xs := by
  rcases h with (h | ⟨o, h⟩) | h
  · exact .inl (.inl (e _ _ h))
  · exact .inl (.inr ⟨o, e _ _ h⟩)
  · exact .inr h
theorem same_new {H : Hp} {p : Addr} (h : H p = none) (o : HO) : Same H (upd H p o) := fun b u q => by rw [upd_ne (ne_of_none q h)]; exact q
end L2

set_option Elab.async false
set_option linter.all false
set_option maxRecDepth 100000
namespace L2
open PySem PySem.Spec PyProof.Rows
theorem boot_bool : bootBuiltins "bool" = some (.type "bool") := by decide +kernel
theorem boot_int : bootBuiltins "int" = some (.type "int") := by decide +kernel
theorem boot_str : bootBuiltins "str" = some (.type "str") := by decide +kernel
theorem boot_list : bootBuiltins "list" = some (.type "list") := by decide +kernel
theorem boot_tuple : bootBuiltins "tuple" = some (.type "tuple") := by decide +kernel
theorem boot_dict : bootBuiltins "dict" = some (.type "dict") := by decide +kernel
theorem boot_ValueError : bootBuiltins "ValueError" = some (.type "ValueError") := by decide +kernel
section
variable {X : Cx}
def rIsi (K : PySem.W.Frag) (c : V) (cv : Value) : List V → Hp → VK → Prop := fun xs H Q => ∃ x t b, xs = [x, c] ∧ TyOf K H x t ∧ PySem.W.kitOne K t cv = some b ∧ Q (.bl b) H
theorem call_isi {c : V} {cv : Value} (hc : ∀ u, RelV c u → u = cv) : CallR X (.builtin "isinstance") (rIsi X.K c cv) := by
  intro pins s σ H xs us Q I r h
  obtain ⟨x, t, b, rfl, ty, e, q⟩ := h
  obtain ⟨u, w, rfl, ru, rw'⟩ := Vals.two r
  cases hc w rw'
  exact isinst_ok I ru ty e fun tk => ⟨.bl b, H, I.tok tk, rfl, q⟩
theorem pe_isB {x : Str} {T : String} {p p2 pos : Pos} {e : Expr} {te : TE} (hg : Gl X "isinstance") (hm : X.mg "isinstance" = none) (he : PE X e te) (hmT : X.mg x = none) (hT : bootBuiltins x = some (.type T)) (hgT : Gl X x := by rfl) (hn : x ≠ "__name__" := by decide) (hd : (x == ("__debug__" : Str)) = false := by decide)
    (h1 : starEach [e, .Name x p2] X.env = (false, eval e X.env) :: starEach [.Name x p2] X.env := by rfl) (h2 : (backTo pos (starEach [.Name x p2] X.env)).any (·.1) = false := by rfl) :
    PE X (.Call (.Name "isinstance" p) [e, .Name x p2] [] pos) (tCB (rIsi X.K (.ty T) (.type T)) (tCons te (tCons (tC (.ty T)) tNil))) :=
  pe_callB (call_isi fun u hu => hu) hg hm boot_isinstance (pa_cons he (pa_cons (pe_bltn hgT hmT hT rfl hn hd) pa_nil) h1) (by decide) (by decide) h1 h2
end
end L2

namespace Tw
theorem pop_dec {n : Nat} (h : ¬ n = 0) : n / 2 < n := Nat.div_lt_self (Nat.pos_of_ne_zero h) (by decide)
def pop (n : Nat) : Nat := if h : n = 0 then 0 else n % 2 + pop (n / 2)
termination_by n
decreasing_by exact pop_dec h
theorem pop_zero : pop 0 = 0 := by rw [pop]; rfl
theorem pop_step (n : Nat) : pop n = n % 2 + pop (n / 2) := by
  by_cases h : n = 0
  · subst h; rw [pop_zero]
  · rw [pop, dif_neg h]
theorem and_mod2 (a b : Nat) : (a &&& b) % 2 = (a % 2) * (b % 2) := by
  have h := Nat.and_two_pow_sub_one_eq_mod
  have ha : a % 2 = a &&& 1 := (Nat.and_one_is_mod a).symm
  rw [← Nat.and_one_is_mod, ← Nat.and_one_is_mod, ← Nat.and_one_is_mod]
  have e : (a &&& b) &&& 1 = (a &&& 1) &&& (b &&& 1) := by
    apply Nat.eq_of_testBit_eq
    intro i
    simp only [Nat.testBit_and]
    cases a.testBit i <;> cases b.testBit i <;> cases (1 : Nat).testBit i <;> rfl
  rw [e, Nat.and_one_is_mod a, Nat.and_one_is_mod b]
  rcases Nat.mod_two_eq_zero_or_one a with h | h <;> rcases Nat.mod_two_eq_zero_or_one b with h' | h' <;> rw [h, h'] <;> rfl
theorem and_div2 (a b : Nat) : (a &&& b) / 2 = (a / 2) &&& (b / 2) := by
  apply Nat.eq_of_testBit_eq
  intro i
  rw [Nat.testBit_and, Nat.testBit_div_two, Nat.testBit_div_two, Nat.testBit_div_two, Nat.testBit_and]
theorem pop_pred : ∀ n : Nat, 0 < n → pop (n &&& (n - 1)) + 1 = pop n := by
  intro n
  induction n using Nat.strongRecOn with
  | ind n ih =>
    intro h
    rw [pop_step (n &&& (n - 1)), pop_step n, and_mod2, and_div2]
    rcases Nat.mod_two_eq_zero_or_one n with e | e
    · have h2 : 0 < n / 2 := by omega
      have e2 : (n - 1) / 2 = n / 2 - 1 := by omega
      have := ih (n / 2) (by omega) h2
      rw [e2, e]
      omega
    · have e2 : (n - 1) / 2 = n / 2 := by omega
      have e3 : (n - 1) % 2 = 0 := by omega
      have e4 : n / 2 &&& n / 2 = n / 2 := Nat.and_self _
      rw [e2, e3, e, e4]
      omega
theorem and_pred_lt {n : Nat} (h : 0 < n) : n &&& (n - 1) < n := by
  have := Nat.and_le_right (n := n) (m := n - 1)
  omega
def cnt (p : Nat → Bool) : Nat → Nat
  | 0 => 0
  | k + 1 => cnt p k + (p k).toNat
theorem cnt_succ' (p : Nat → Bool) : ∀ k, cnt p (k + 1) = (p 0).toNat + cnt (fun i => p (i + 1)) k
  | 0 => by simp [cnt]
  | k + 1 => by
    have := cnt_succ' p k
    rw [cnt, this, cnt]
    omega
theorem cnt_congr {p q : Nat → Bool} : ∀ {k : Nat}, (∀ i, i < k → p i = q i) → cnt p k = cnt q k
  | 0, _ => rfl
  | k + 1, h => by rw [cnt, cnt, cnt_congr fun i hi => h i (by omega), h k (by omega)]
theorem cnt_le (p : Nat → Bool) : ∀ k, cnt p k ≤ k
  | 0 => Nat.le_refl _
  | k + 1 => by
    have := cnt_le p k
    rw [cnt]
    cases p k <;> simp <;> omega
theorem pop_cnt : ∀ (k n : Nat), n < 2 ^ k → pop n = cnt n.testBit k
  | 0, n, h => by
    have : n = 0 := by simpa using h
    subst this
    exact pop_zero
  | k + 1, n, h => by
    rw [pop_step, cnt_succ']
    have h2 : n / 2 < 2 ^ k := by rw [Nat.pow_succ] at h; omega
    rw [pop_cnt k (n / 2) h2]
    have e0 : n % 2 = (n.testBit 0).toNat := by
      rw [Nat.testBit_zero]
      rcases Nat.mod_two_eq_zero_or_one n with e | e <;> rw [e] <;> rfl
    rw [e0]
    congr 1
    exact cnt_congr fun i _ => by rw [Nat.testBit_div_two]
theorem pop_lt {n k : Nat} (h : n < 2 ^ k) : pop n ≤ k := by rw [pop_cnt k n h]; exact cnt_le _ _
def bI (b : Bool) : Int := if b then 1 else 0
theorem xor_lt {a b k : Nat} (h1 : a < 2 ^ k) (h2 : b < 2 ^ k) : a ^^^ b < 2 ^ k := Nat.xor_lt_two_pow h1 h2
theorem and_lt {a b k : Nat} (h1 : a < 2 ^ k) : a &&& b < 2 ^ k := Nat.lt_of_le_of_lt Nat.and_le_left h1
theorem or_lt {a b k : Nat} (h1 : a < 2 ^ k) (h2 : b < 2 ^ k) : a ||| b < 2 ^ k := Nat.or_lt_two_pow h1 h2
theorem or_div2 (a b : Nat) : (a ||| b) / 2 = (a / 2) ||| (b / 2) := by
  apply Nat.eq_of_testBit_eq
  intro i
  rw [Nat.testBit_or, Nat.testBit_div_two, Nat.testBit_div_two, Nat.testBit_div_two, Nat.testBit_or]
theorem xor_div2 (a b : Nat) : (a ^^^ b) / 2 = (a / 2) ^^^ (b / 2) := by
  apply Nat.eq_of_testBit_eq
  intro i
  rw [Nat.testBit_xor, Nat.testBit_div_two, Nat.testBit_div_two, Nat.testBit_div_two, Nat.testBit_xor]
theorem mod2_b (a : Nat) : a % 2 = (a.testBit 0).toNat := by
  rw [Nat.testBit_zero]
  rcases Nat.mod_two_eq_zero_or_one a with e | e <;> rw [e] <;> rfl
theorem or_mod2 (a b : Nat) : (a ||| b) % 2 + (a &&& b) % 2 = a % 2 + b % 2 := by
  rw [mod2_b, mod2_b (a &&& b), mod2_b a, mod2_b b, Nat.testBit_or, Nat.testBit_and]
  cases a.testBit 0 <;> cases b.testBit 0 <;> rfl
theorem xor_mod2 (a b : Nat) : (a ^^^ b) % 2 + (a &&& b) % 2 = (a ||| b) % 2 := by
  rw [mod2_b, mod2_b (a &&& b), mod2_b (a ||| b), Nat.testBit_or, Nat.testBit_and, Nat.testBit_xor]
  cases a.testBit 0 <;> cases b.testBit 0 <;> rfl
theorem or_add_and : ∀ a b : Nat, (a ||| b) + (a &&& b) = a + b := by
  intro a
  induction a using Nat.strongRecOn with
  | ind a ih =>
    intro b
    by_cases ha : a = 0
    · subst ha; simp
    · have q := ih (a / 2) (by omega) (b / 2)
      have h1 := or_div2 a b
      have h2 := and_div2 a b
      have h3 := or_mod2 a b
      rw [← h1, ← h2] at q
      omega
theorem xor_add_and : ∀ a b : Nat, (a ^^^ b) + (a &&& b) = a ||| b := by
  intro a
  induction a using Nat.strongRecOn with
  | ind a ih =>
    intro b
    by_cases ha : a = 0
    · subst ha; simp
    · have q := ih (a / 2) (by omega) (b / 2)
      have h1 := or_div2 a b
      have h2 := and_div2 a b
      have h4 := xor_div2 a b
      have h3 := xor_mod2 a b
      rw [← h1, ← h2, ← h4] at q
      omega
theorem pow2_cast (n : Nat) : ((2 : Int) ^ n) = ((2 ^ n : Nat) : Int) := by push_cast; rfl
theorem emod_pow (y : Int) (n : Nat) : ∃ k : Nat, y % 2 ^ n = (k : Int) ∧ k < 2 ^ n := by
  have p : (0 : Int) < 2 ^ n := Int.pow_pos (by decide)
  have h1 := Int.emod_nonneg y (show ((2 : Int) ^ n) ≠ 0 by omega)
  have h2 := Int.emod_lt_of_pos y p
  have e := pow2_cast n
  exact ⟨(y % 2 ^ n).toNat, by omega, by omega⟩
theorem emod_nat (y : Int) {n : Nat} (h : 0 < n) : ∃ k : Nat, y % (n : Int) = (k : Int) ∧ k < n := by
  have h1 := Int.emod_nonneg y (show ((n : Int)) ≠ 0 by omega)
  have h2 := Int.emod_lt_of_pos y (show (0 : Int) < (n : Int) by omega)
  exact ⟨(y % n).toNat, by omega, by omega⟩
theorem ul_t {b1 b2 b3 b4 : Bool} (h1 : ¬ [bI b1, bI b2] = [0, 0]) (h2 : ¬ [bI b3, bI b4] = [0, 0]) (h3 : ¬ [bI b1, bI b2] = [bI b3, bI b4]) : ((b1 && b4) ^^ (b2 && b3)) = true := by
  revert h1 h2 h3; cases b1 <;> cases b2 <;> cases b3 <;> cases b4 <;> decide
theorem ul_f1 {b1 b2 b3 b4 : Bool} (h1 : [bI b1, bI b2] = [0, 0]) : ((b1 && b4) ^^ (b2 && b3)) = false := by
  revert h1; cases b1 <;> cases b2 <;> cases b3 <;> cases b4 <;> decide
theorem ul_f2 {b1 b2 b3 b4 : Bool} (h1 : [bI b3, bI b4] = [0, 0]) : ((b1 && b4) ^^ (b2 && b3)) = false := by
  revert h1; cases b1 <;> cases b2 <;> cases b3 <;> cases b4 <;> decide
theorem ul_f3 {b1 b2 b3 b4 : Bool} (h1 : [bI b1, bI b2] = [bI b3, bI b4]) : ((b1 && b4) ^^ (b2 && b3)) = false := by
  revert h1; cases b1 <;> cases b2 <;> cases b3 <;> cases b4 <;> decide
end Tw

set_option Elab.async false
set_option linter.all false
set_option maxRecDepth 100000
namespace L2
open PySem PySem.Spec PyProof.Rows
theorem scal_ii (a b : Int) : scal (.int a) (.int b) = true := rfl
theorem scal_bb (a b : Bool) : scal (.bl a) (.bl b) = true := rfl
theorem scal_ss (a b : Str) : scal (.str a) (.str b) = true := rfl
theorem sz_le {n : Nat} (h : n ≤ 1000) : (n ≤ sizeLine) = True := eq_true (Nat.le_of_lt (small1000 h))
theorem sz0 : (0 ≤ sizeLine) = True := sz_le (by decide)
theorem sz1 : (1 ≤ sizeLine) = True := sz_le (by decide)
theorem sz2 : (2 ≤ sizeLine) = True := sz_le (by decide)
theorem sz3 : (3 ≤ sizeLine) = True := sz_le (by decide)
theorem sz4 : (4 ≤ sizeLine) = True := sz_le (by decide)
theorem sz5 : (5 ≤ sizeLine) = True := sz_le (by decide)
theorem sz7 : (7 ≤ sizeLine) = True := sz_le (by decide)
theorem sz9 : (9 ≤ sizeLine) = True := sz_le (by decide)
theorem bitAnd_nat (a b : Nat) : Builtin.bitAnd (a : Int) (b : Int) = ((a &&& b : Nat) : Int) := by
  rw [bitAnd_pp (by omega) (by omega)]; simp
theorem bitOr_nat (a b : Nat) : Builtin.bitOr (a : Int) (b : Int) = ((a ||| b : Nat) : Int) := by
  have h : Builtin.bitOr (a : Int) (b : Int) = a + b - ((a &&& b : Nat) : Int) := by rw [bitOr_and, bitAnd_nat]
  have e := Tw.or_add_and a b
  omega
theorem bitXor_nat (a b : Nat) : Builtin.bitXor (a : Int) (b : Int) = ((a ^^^ b : Nat) : Int) := by
  have h : Builtin.bitXor (a : Int) (b : Int) = ((a ||| b : Nat) : Int) - ((a &&& b : Nat) : Int) := by
    show Builtin.bitOr _ _ - Builtin.bitAnd _ _ = _
    rw [bitOr_nat, bitAnd_nat]
  have e := Tw.xor_add_and a b
  omega
theorem bitAnd_bit (x i : Nat) : Builtin.bitAnd ((x : Int) / 2 ^ i) 1 = Tw.bI (x.testBit i) := by
  have e : ((x : Int) / 2 ^ i) = ((x / 2 ^ i : Nat) : Int) := by push_cast; rfl
  have e1 : (1 : Int) = ((1 : Nat) : Int) := rfl
  rw [e, e1, bitAnd_nat, Nat.and_one_is_mod]
  rw [Nat.testBit_eq_decide_div_mod_eq]
  unfold Tw.bI
  rcases Nat.mod_two_eq_zero_or_one (x / 2 ^ i) with h | h <;> rw [h] <;> rfl
theorem bitAnd_pred {n : Nat} (h : 0 < n) : Builtin.bitAnd (n : Int) ((n : Int) - 1) = ((n &&& (n - 1) : Nat) : Int) := by
  have e : ((n : Int) - 1) = ((n - 1 : Nat) : Int) := by omega
  rw [e, bitAnd_nat]
theorem SqT.upd {K : PySem.W.Frag} {H : Hp} {p a : Addr} {o : HO} {xs : List V} (h : H p = none) (s : SqT K H a xs) : SqT K (upd H p o) a xs := (same_new h o).tup s
theorem SqL.upd {K : PySem.W.Frag} {H : Hp} {p a : Addr} {o : HO} {xs : List V} (h : H p = none) (s : SqL K H a xs) : SqL K (upd H p o) a xs := (same_new h o).seq s
theorem Same.updR {H H1 : Hp} {p : Addr} {o : HO} (s : Same H H1) (h : H1 p = none) : Same H (upd H1 p o) := s.trans (same_new h o)
theorem upd_get {H : Hp} {p a : Addr} {o u : HO} (h : H p = none) (s : H a = some u) : upd H p o a = some u := same_new h o a u s
section
variable {K : PySem.W.Frag} {H : Hp} {Q : VK} {a b : Addr} {i j : Int} {x y : Str} {p q : Bool}
theorem rIxT_s : rIxT K (.ref a) (.int i) H Q = (∃ xs v, SqT K H a xs ∧ atI xs i = some v ∧ Q v H) := by
  apply propext
  constructor
  · rintro ⟨_, xs, _, v, e1, e2, h1, h2, h3⟩
    cases e1; cases e2
    exact ⟨xs, v, h1, h2, h3⟩
  · rintro ⟨xs, v, h1, h2, h3⟩
    exact ⟨_, xs, _, v, rfl, rfl, h1, h2, h3⟩
theorem rIxL_s : rIxL K (.ref a) (.int i) H Q = (∃ xs v, SqL K H a xs ∧ atI xs i = some v ∧ Q v H) := by
  apply propext
  constructor
  · rintro ⟨_, xs, _, v, e1, e2, h1, h2, h3⟩
    cases e1; cases e2
    exact ⟨xs, v, h1, h2, h3⟩
  · rintro ⟨xs, v, h1, h2, h3⟩
    exact ⟨_, xs, _, v, rfl, rfl, h1, h2, h3⟩
theorem rI0_s {g : Int → Int → V} : rI0 g (.int i) (.int j) H Q = Q (g i j) H := by
  apply propext
  constructor
  · rintro ⟨_, _, h1, h2, h3⟩
    cases h1; cases h2; exact h3
  · intro h
    exact ⟨_, _, rfl, rfl, h⟩
theorem rI_s {C : Int → Int → Prop} {g : Int → Int → V} : rI C g (.int i) (.int j) H Q = (C i j ∧ Q (g i j) H) := by
  apply propext
  constructor
  · rintro ⟨_, _, h1, h2, h3⟩
    cases h1; cases h2; exact h3
  · intro h
    exact ⟨_, _, rfl, rfl, h⟩
theorem rU_s {g : Int → V} : rU g (.int i) H Q = Q (g i) H := by
  apply propext
  constructor
  · rintro ⟨_, h1, h3⟩
    cases h1; exact h3
  · intro h
    exact ⟨_, rfl, h⟩
theorem rEq_i : rEq (.int i) (.int j) H Q = Q (.bl (decide (i = j))) H := by
  unfold rEq
  rw [scal_ii]
  simp only [V.int.injEq, true_and]
theorem rNe_i : rNe (.int i) (.int j) H Q = Q (.bl (!decide (i = j))) H := by
  unfold rNe
  rw [scal_ii]
  simp only [V.int.injEq, true_and]
theorem rEq_b : rEq (.bl p) (.bl q) H Q = Q (.bl (decide (p = q))) H := by
  unfold rEq
  rw [scal_bb]
  simp only [V.bl.injEq, true_and]
theorem rNe_b : rNe (.bl p) (.bl q) H Q = Q (.bl (!decide (p = q))) H := by
  unfold rNe
  rw [scal_bb]
  simp only [V.bl.injEq, true_and]
theorem rEq_s : rEq (.str x) (.str y) H Q = Q (.bl (decide (x = y))) H := by
  unfold rEq
  rw [scal_ss]
  simp only [V.str.injEq, true_and]
theorem rNe_s : rNe (.str x) (.str y) H Q = Q (.bl (!decide (x = y))) H := by
  unfold rNe
  rw [scal_ss]
  simp only [V.str.injEq, true_and]
theorem tst_s {p : Bool} {Q : Bool → Prop} : (∃ k, V.bl p = V.bl k ∧ Q k) = Q p := by
  apply propext
  constructor
  · rintro ⟨_, h1, h3⟩
    cases h1; exact h3
  · intro h
    exact ⟨_, rfl, h⟩
end
theorem cxOf_K {CX : CXT} {P : Program} {w : World} {K : PySem.W.Frag} {mg : Str → Option Value} {base : Heap} {N : List Str} {qual : Str} {scope : Scope} {f : Addr} {cd : Value} {A : Around} {outer : List Env} {s : Shared} {H : Hp} {E : XK} : (cxOf CX P w K mg base N qual scope f cd A outer s H E).K = K := rfl
theorem pow2_pos (n : Nat) : ((0 : Int) < 2 ^ n) = True := eq_true (Int.pow_pos (by decide))
theorem cdivw_pow {i : Int} {n : Nat} (h : n ≤ 100) : CDivW i (2 ^ n) := ⟨Int.pow_pos (by decide), by
  have e : ((2 : Int) ^ n) = ((2 ^ n : Nat) : Int) := by push_cast; rfl
  have h1 : (2 : Nat) ^ n ≤ 2 ^ 100 := Nat.pow_le_pow_right (by decide) h
  have h2 : (2 : Nat) ^ 100 < 2 ^ 200 := by decide
  have e2 : ((2 : Int) ^ 200) = ((2 ^ 200 : Nat) : Int) := by decide
  omega⟩
theorem cpow_n {i : Int} {n : Nat} (h : n ≤ 1000) (h2 : i.natAbs < 2 ^ 64 := by decide) : CPow i (n : Int) := ⟨by omega, by omega, h2⟩
theorem ixT {K : PySem.W.Frag} {H : Hp} {a : Addr} {i : Int} {xs : List V} {v : V} {R : V → Prop} (h : SqT K H a xs) (e : atI xs i = some v) (q : R v) : ∃ xs v, SqT K H a xs ∧ atI xs i = some v ∧ R v := ⟨xs, v, h, e, q⟩
theorem ixL {K : PySem.W.Frag} {H : Hp} {a : Addr} {i : Int} {xs : List V} {v : V} {R : V → Prop} (h : SqL K H a xs) (e : atI xs i = some v) (q : R v) : ∃ xs v, SqL K H a xs ∧ atI xs i = some v ∧ R v := ⟨xs, v, h, e, q⟩
theorem shaped_ints (is : List Int) : SeqAt.shaped (.tuple (is.map PyData.int)) = true := by
  simp [SeqAt.shaped, PyData.canLay0, PyData.depth, PySem.W.ke_canLayAll0, PySem.W.ke_depthAll]
theorem dvs_ints {K : PySem.W.Frag} {H : Hp} : ∀ is : List Int, DVs K H (is.map V.int) (is.map PyData.int)
  | [] => .nil
  | _ :: r => .cons (.int _) (dvs_ints r)
theorem eqv_ints : ∀ is js : List Int, PyData.eqvAll (is.map PyData.int) (js.map PyData.int) = decide (is = js)
  | [], [] => by simp [PyData.eqvAll]
  | [], _ :: _ => by simp [PyData.eqvAll]
  | _ :: _, [] => by simp [PyData.eqvAll]
  | a :: r, b :: t => by
    simp only [List.map_cons, PyData.eqvAll, PyData.eqv, eqv_ints r t]
    by_cases h : a = b <;> by_cases h' : r = t <;> simp [h, h']
theorem rEqD_ints {K : PySem.W.Frag} {H : Hp} {Q : VK} {a b : Addr} {is js : List Int} (ha : SqT K H a (is.map V.int)) (hb : SqT K H b (js.map V.int)) (q : Q (.bl (decide (is = js))) H) : rEqD K (.ref a) (.ref b) H Q :=
  ⟨_, _, .tup ha (dvs_ints is), .tup hb (dvs_ints js), shaped_ints is, shaped_ints js, by rw [PyData.eqv, eqv_ints]; exact q⟩
theorem rNeD_ints {K : PySem.W.Frag} {H : Hp} {Q : VK} {a b : Addr} {is js : List Int} (ha : SqT K H a (is.map V.int)) (hb : SqT K H b (js.map V.int)) (q : Q (.bl (!decide (is = js))) H) : rNeD K (.ref a) (.ref b) H Q :=
  ⟨_, _, .tup ha (dvs_ints is), .tup hb (dvs_ints js), shaped_ints is, shaped_ints js, by rw [PyData.eqv, eqv_ints]; exact q⟩
section
variable {K : PySem.W.Frag} {H : Hp} {Q : VK} {a b : Addr} {i1 i2 i3 j1 j2 j3 : Int}
theorem rEqD_2 (ha : SqT K H a [.int i1, .int i2]) (hb : SqT K H b [.int j1, .int j2]) (q : Q (.bl (decide ([i1, i2] = [j1, j2]))) H) : rEqD K (.ref a) (.ref b) H Q := rEqD_ints (is := [i1, i2]) (js := [j1, j2]) ha hb q
theorem rNeD_2 (ha : SqT K H a [.int i1, .int i2]) (hb : SqT K H b [.int j1, .int j2]) (q : Q (.bl (!decide ([i1, i2] = [j1, j2]))) H) : rNeD K (.ref a) (.ref b) H Q := rNeD_ints (is := [i1, i2]) (js := [j1, j2]) ha hb q
theorem rEqD_3 (ha : SqT K H a [.int i1, .int i2, .int i3]) (hb : SqT K H b [.int j1, .int j2, .int j3]) (q : Q (.bl (decide ([i1, i2, i3] = [j1, j2, j3]))) H) : rEqD K (.ref a) (.ref b) H Q := rEqD_ints (is := [i1, i2, i3]) (js := [j1, j2, j3]) ha hb q
theorem rNeD_3 (ha : SqT K H a [.int i1, .int i2, .int i3]) (hb : SqT K H b [.int j1, .int j2, .int j3]) (q : Q (.bl (!decide ([i1, i2, i3] = [j1, j2, j3]))) H) : rNeD K (.ref a) (.ref b) H Q := rNeD_ints (is := [i1, i2, i3]) (js := [j1, j2, j3]) ha hb q
end
end L2

set_option Elab.async false
set_option linter.all false
set_option maxRecDepth 100000
namespace L2
open PySem PySem.Spec PyProof.Rows
section
variable {K : PySem.W.Frag} {H : Hp} {Q : VK} {R : Bool → Hp → Prop} {D : Ends} {σ : St} {t u : TS} {te ta tb : TE} {tt tu : TT} {tA : TA} {g : TG} {gs : TGs} {v w : V} {a b : Addr} {i j : Int} {p q : Bool} {x y : Str} {n m k : Nat}
theorem st_seq (h : t { D with nx := u D } σ H) : tSeq t u D σ H := h
theorem st_next (h : D.nx σ H) : tNext D σ H := h
theorem st_asg (h : te σ H fun x H1 => g x σ H1 D.nx) : tAsg te g D σ H := h
theorem st_ret (h : te σ H D.rt) : tRet te D σ H := h
theorem st_retN (h : D.rt .non H) : tRetN D σ H := h
theorem st_drop (h : te σ H fun _ H1 => D.nx σ H1) : tDrop te D σ H := h
theorem st_if (h : tt σ H fun b H1 => if b = true then t D σ H1 else u D σ H1) : tIfS tt t u D σ H := h
theorem st_gname {P : St → Hp → Prop} (h : P (σ.set n (some v)) H) : gName n v σ H P := h
theorem st_gtup {P : St → Hp → Prop} {xs : List V} (s : SqT K H a xs) (l : xs.length = n) (h : gs xs σ H P) : gTup K n gs (.ref a) σ H P := ⟨a, xs, rfl, s, l, h⟩
theorem st_gcons {P : St → Hp → Prop} {r : List V} (h : g v σ H fun σ' H' => gs r σ' H' P) : gCons g gs (v :: r) σ H P := ⟨v, r, rfl, h⟩
theorem st_gnil {P : St → Hp → Prop} (h : P σ H) : gNil [] σ H P := ⟨rfl, h⟩
theorem st_c (h : Q v H) : tC v σ H Q := h
theorem st_var (e : σ[n]? = some (some v)) (h : Q v H) : tVar n σ H Q := ⟨v, e, h⟩
theorem st_op {r : R2} (h : ta σ H fun x H1 => tb σ H1 fun y H2 => r x y H2 Q) : tOp r ta tb σ H Q := h
theorem st_un {r : V → Hp → VK → Prop} (h : ta σ H fun x H1 => r x H1 Q) : tUn r ta σ H Q := h
theorem st_test (h : te σ H fun x H' => ∃ k, x = .bl k ∧ R k H') : tTest te σ H R := h
theorem st_tB (h : te σ H fun x H' => ∃ k, x = .bl k ∧ R k H') : tB te σ H R := h
theorem st_bl {P : Bool → Prop} (h : P p) : ∃ k, V.bl p = V.bl k ∧ P k := ⟨p, rfl, h⟩
theorem st_and (h : tt σ H fun c H1 => if c = true then tu σ H1 R else R false H1) : tAnd tt tu σ H R := h
theorem st_or (h : tt σ H fun c H1 => if c = true then R true H1 else tu σ H1 R) : tOr tt tu σ H R := h
theorem st_not (h : tt σ H fun c H1 => R (!c) H1) : tNot tt σ H R := h
theorem st_andV (h : ta σ H fun x H1 => ∃ c, x = .bl c ∧ if c = true then tb σ H1 Q else Q (.bl false) H1) : tAndV ta tb σ H Q := h
theorem st_orV (h : ta σ H fun x H1 => ∃ c, x = .bl c ∧ if c = true then Q (.bl true) H1 else tb σ H1 Q) : tOrV ta tb σ H Q := h
theorem st_notV (h : ta σ H fun x H1 => ∃ c, x = .bl c ∧ Q (.bl (!c)) H1) : tNotV ta σ H Q := h
theorem st_ifE (h : tt σ H fun c H1 => if c = true then ta σ H1 Q else tb σ H1 Q) : tIf tt ta tb σ H Q := h
theorem st_call {sp : Sp} {dvs : List V} {E : XK} (h : tA σ H fun vs H1 => sp (vs ++ dvs) H1 Q E) : tCall sp dvs E tA σ H Q := h
theorem st_cb {r : List V → Hp → VK → Prop} (h : tA σ H fun vs H1 => r vs H1 Q) : tCB r tA σ H Q := h
theorem st_cons {P : List V → Hp → Prop} (h : te σ H fun x H1 => tA σ H1 fun xs H2 => P (x :: xs) H2) : tCons te tA σ H P := h
theorem st_nil {P : List V → Hp → Prop} (h : P [] H) : tNil σ H P := h
theorem st_tup (h : tA σ H fun xs H1 => xs.length ≤ sizeLine ∧ ∀ p, H1 p = none → Q (.ref p) (upd H1 p (.tup xs))) : tTup tA σ H Q := h
theorem st_lst (h : tA σ H fun xs H1 => xs.length ≤ sizeLine ∧ ∀ p, H1 p = none → Q (.ref p) (upd H1 p (.lst xs))) : tLst tA σ H Q := h
theorem st_size {A : Prop} {xs : List V} (h : Nat.ble xs.length 1000 = true) (q : A) : xs.length ≤ sizeLine ∧ A := ⟨Nat.le_of_lt (small1000 (Nat.le_of_ble_eq_true h)), q⟩
theorem st_part {P : Option Int → Hp → Prop} (h : te σ H fun x H1 => ∃ i, x = .int i ∧ P (some i) H1) : tPart te σ H P := h
theorem st_int {P : Int → Prop} (h : P i) : ∃ k, V.int i = V.int k ∧ P k := ⟨i, rfl, h⟩
theorem st_nopart {P : Option Int → Hp → Prop} (h : P none H) : tNoPart σ H P := h
theorem st_sl {r : V → Option Int → Option Int → Hp → VK → Prop} {tl th : TO} (h : te σ H fun x H1 => tl σ H1 fun l H2 => th σ H2 fun u H3 => r x l u H3 Q) : tSl r te tl th σ H Q := h
theorem st_slL {xs : List V} {lo hi : Option Int} (s : SqL K H a xs) (h : ∀ p, H p = none → Q (.ref p) (upd H p (.lst (cutV xs lo hi)))) : rSlL K (.ref a) lo hi H Q := ⟨a, xs, rfl, s, h⟩
theorem st_i0 {g : Int → Int → V} (h : Q (g i j) H) : rI0 g (.int i) (.int j) H Q := ⟨i, j, rfl, rfl, h⟩
theorem st_i {C : Int → Int → Prop} {g : Int → Int → V} (c : C i j) (h : Q (g i j) H) : rI C g (.int i) (.int j) H Q := ⟨i, j, rfl, rfl, c, h⟩
theorem st_u {g : Int → V} (h : Q (g i) H) : rU g (.int i) H Q := ⟨i, rfl, h⟩
theorem st_eqi (h : Q (.bl (decide (i = j))) H) : rEq (.int i) (.int j) H Q := by rw [rEq_i]; exact h
theorem st_nei (h : Q (.bl (!decide (i = j))) H) : rNe (.int i) (.int j) H Q := by rw [rNe_i]; exact h
theorem st_eqb (h : Q (.bl (decide (p = q))) H) : rEq (.bl p) (.bl q) H Q := by rw [rEq_b]; exact h
theorem st_neb (h : Q (.bl (!decide (p = q))) H) : rNe (.bl p) (.bl q) H Q := by rw [rNe_b]; exact h
theorem st_eqs (h : Q (.bl (decide (x = y))) H) : rEq (.str x) (.str y) H Q := by rw [rEq_s]; exact h
theorem st_nes (h : Q (.bl (!decide (x = y))) H) : rNe (.str x) (.str y) H Q := by rw [rNe_s]; exact h
theorem st_ixT {xs : List V} (s : SqT K H a xs) (e : atI xs i = some v) (h : Q v H) : rIxT K (.ref a) (.int i) H Q := ⟨a, xs, i, v, rfl, rfl, s, e, h⟩
theorem st_ixL {xs : List V} (s : SqL K H a xs) (e : atI xs i = some v) (h : Q v H) : rIxL K (.ref a) (.int i) H Q := ⟨a, xs, i, v, rfl, rfl, s, e, h⟩
theorem st_andN (h : Q (.int ((n &&& m : Nat) : Int)) H) : rI0 (fun i j => .int (Builtin.bitAnd i j)) (.int (n : Int)) (.int (m : Int)) H Q := st_i0 (by rw [bitAnd_nat]; exact h)
theorem st_orN (h : Q (.int ((n ||| m : Nat) : Int)) H) : rI0 (fun i j => .int (Builtin.bitOr i j)) (.int (n : Int)) (.int (m : Int)) H Q := st_i0 (by rw [bitOr_nat]; exact h)
theorem st_xorN (h : Q (.int ((n ^^^ m : Nat) : Int)) H) : rI0 (fun i j => .int (Builtin.bitXor i j)) (.int (n : Int)) (.int (m : Int)) H Q := st_i0 (by rw [bitXor_nat]; exact h)
theorem st_bit (h : Q (.int (Tw.bI (n.testBit k))) H) : rI0 (fun i j => .int (Builtin.bitAnd i j)) (.int ((n : Int) / 2 ^ k)) (.int 1) H Q := st_i0 (by rw [bitAnd_bit]; exact h)
theorem st_shrN (h : Q (.int (i / 2 ^ k)) H) : rI (fun _ j => 0 ≤ j) (fun i j => .int (i / 2 ^ j.toNat)) (.int i) (.int (k : Int)) H Q := st_i (by omega) (by rw [Int.toNat_natCast]; exact h)
theorem st_shl1 (c : k ≤ 1000) (h : Q (.int ((2 ^ k : Nat) : Int)) H) : rI CPow (fun i j => .int (i * 2 ^ j.toNat)) (.int 1) (.int (k : Int)) H Q := st_i (cpow_n c) (by rw [Int.toNat_natCast, Int.one_mul, Tw.pow2_cast]; exact h)
theorem st_modN (c : 0 < n) (h : ∀ k : Nat, i % (n : Int) = (k : Int) → k < n → Q (.int (k : Int)) H) : rI (fun _ j => 0 < j) (fun i j => .int (i % j)) (.int i) (.int (n : Int)) H Q := st_i (by omega) (by
  obtain ⟨k, e, l⟩ := Tw.emod_nat i c
  rw [e]; exact h k e l)
theorem st_divN (c : 0 < n) (c2 : n ≤ 2 ^ 100) (h : Q (.int (i / (n : Int))) H) : rI CDivW (fun i j => .int (i / j)) (.int i) (.int (n : Int)) H Q := st_i ⟨by omega, by
  have e2 : ((2 : Int) ^ 200) = ((2 ^ 200 : Nat) : Int) := by decide
  have h2 : (2 : Nat) ^ 100 < 2 ^ 200 := by decide
  omega⟩ h
theorem st_isi {c : V} {cv t : Value} (ty : TyOf K H v t) (e : PySem.W.kitOne K t cv = some p) (h : Q (.bl p) H) : rIsi K c cv [v, c] H Q := ⟨v, t, p, rfl, ty, e, h⟩
end
theorem iteD {c : Prop} [Decidable c] {A B : Prop} (h1 : c → A) (h2 : ¬ c → B) : if decide c = true then A else B := by
  by_cases h : c
  · rw [decide_eq_true h]; exact iteT (h1 h)
  · rw [decide_eq_false h]; exact iteF (h2 h)
theorem iteN {c : Prop} [Decidable c] {A B : Prop} (h1 : ¬ c → A) (h2 : c → B) : if (!decide c) = true then A else B := by
  by_cases h : c
  · rw [decide_eq_true h]; exact iteF (h2 h)
  · rw [decide_eq_false h]; exact iteT (h1 h)
theorem pow_pos2 (n : Nat) : 0 < 2 ^ n := Nat.pow_pos (by decide)
theorem pow_le100 {n : Nat} (h : n ≤ 100) : 2 ^ n ≤ 2 ^ 100 := Nat.pow_le_pow_right (by decide) h
theorem for_range0 {n : Nat} {g : TG} {tb : TS} {D : Ends} {σ : St} {H : Hp} (Pv : Nat → St → Hp → Prop) (h0 : Pv 0 σ H)
    (hs : ∀ i σ H, i < n → Pv i σ H → g (.int (i : Int)) σ H fun σ2 H2 => tb { D with nx := Pv (i + 1), ct := Pv (i + 1), bk := D.nx } σ2 H2) (hd : ∀ σ H, Pv n σ H → D.nx σ H) :
    ∃ W : Nat → Nat → St → Hp → Prop, (∃ m, W 0 m σ H) ∧ ∀ i m σ H, W i m σ H →
      ((Itr 0 n).stop i H ∧ D.nx σ H) ∨ ((Itr 0 n).go i H ∧ ∃ N : St → Hp → Prop, (∀ σ' H', N σ' H' → ∃ m', m' < m ∧ W (i + 1) m' σ' H') ∧ ∀ x H', (Itr 0 n).yld i H x H' → g x σ H' fun σ2 H2 => tb { D with nx := N, ct := N, bk := D.nx } σ2 H2) :=
  for_range Pv h0 (fun i σ H hi hp => by rw [Int.zero_add]; exact hs i σ H hi hp) hd
theorem st_for_range {ta : TE} {n : Nat} {g : TG} {tb : TS} {D : Ends} {σ : St} {H : Hp} (hn : n ≤ 1000000) (e : ∀ P : V → Hp → Prop, P (.int (n : Int)) H → ta σ H P) (Pv : Nat → St → Hp → Prop) (h0 : Pv 0 σ H)
    (hs : ∀ i σ H, i < n → Pv i σ H → g (.int (i : Int)) σ H fun σ2 H2 => tb { D with nx := Pv (i + 1), ct := Pv (i + 1), bk := D.nx } σ2 H2) (hd : ∀ σ H, Pv n σ H → D.nx σ H) : tFor (iRng1 (tCons ta tNil)) g tb D σ H :=
  e _ ⟨(n : Int), rfl, by omega, by omega, for_range0 Pv h0 hs hd⟩
theorem cut_take (ns : List Int) (k : Nat) (hk : 0 ≤ (k : Int)) : cutV (ns.map V.int) none (some (k : Int)) = (ns.take k).map V.int := by
  unfold cutV
  rw [HT.sIx_none, HT.sIx_nat, List.length_map, List.drop_zero, Nat.sub_zero, List.map_take, List.take_eq_take_iff]
  rw [List.length_map]
  omega
theorem at_i {cs : List Int} {i : Nat} (h : i < cs.length) : ∃ c, atI (cs.map V.int) (i : Int) = some (.int c) :=
  ⟨cs[i], atI_nat (by rw [List.getElem?_map, List.getElem?_eq_getElem h]; rfl)⟩
theorem at_prev {cs : List Int} {i : Nat} (h : i < cs.length) : ∃ c, atI (cs.map V.int) ((i : Int) - 1) = some (.int c) := by
  by_cases h0 : i = 0
  · subst h0
    refine ⟨cs[cs.length - 1], ?_⟩
    unfold atI ixN
    rw [List.length_map, if_neg (by omega), if_pos (by omega)]
    have e : (((0 : Nat) : Int) - 1 + (cs.length : Int)).toNat = cs.length - 1 := by omega
    show (cs.map V.int)[(((0 : Nat) : Int) - 1 + (cs.length : Int)).toNat]? = _
    rw [e, List.getElem?_map, List.getElem?_eq_getElem (by omega)]
    rfl
  · have e : (i : Int) - 1 = ((i - 1 : Nat) : Int) := by omega
    rw [e]
    exact at_i (by omega)
theorem kit_same {K : PySem.W.Frag} (T : String) : PySem.W.kitOne K (.type T) (.type T) = some true := by
  unfold PySem.W.kitOne
  rw [if_pos (by simp)]
theorem one_mod (c : Int) (d : Int) (hd : 0 < d) (hd2 : d ≤ 1000) : ∃ n : Nat, 1 + c % d = (n : Int) ∧ 0 < n ∧ (n : Int) ≤ d := by
  have h1 := Int.emod_nonneg c (show d ≠ 0 by omega)
  have h2 := Int.emod_lt_of_pos c hd
  exact ⟨(1 + c % d).toNat, by omega, by omega, by omega⟩
theorem iteNT {A B : Prop} (h : B) : if (!true) = true then A else B := iteF h
theorem iteNF {A B : Prop} (h : A) : if (!false) = true then A else B := iteT h
end L2

set_option Elab.async false
set_option linter.all false
set_option maxRecDepth 100000
namespace L2
open PySem PySem.Spec PyProof.Rows
def clGo (env : Env) : List (Str × NameKind) → List (Str × Addr) → List (Str × Addr)
  | [], acc => acc
  | (n, k) :: r, acc => if (k == NameKind.free) = true then clGo env r ((n, (env.cells.lookup n).getD 0) :: acc) else clGo env r acc
theorem clGo_eq (env : Env) : ∀ (names : List (Str × NameKind)) (acc : List (Str × Addr)), (∀ p ∈ names, p.2 = .free → ∃ c, env.cells.lookup p.1 = some c) →
    (forIn names acc fun x r => match x with
      | (name, kind) => if (kind == NameKind.free) = true then (do let a ← cellOf env name; pure (ForInStep.yield ((name, a) :: r)) : Sem _) else pure (ForInStep.yield r)) = (pure (clGo env names acc) : Sem _)
  | [], _, _ => rfl
  | (n, k) :: r, acc, h => by
    rw [List.forIn_cons]
    by_cases hk : k = NameKind.free
    · subst hk
      obtain ⟨c, hc⟩ := h (n, .free) List.mem_cons_self rfl
      have e : cellOf env n = pure c := by unfold cellOf; rw [hc]
      simp only [beq_self_eq_true, if_true, e, pure_bind, clGo, hc, Option.getD_some]
      exact clGo_eq env r _ fun p hp => h p (List.mem_cons_of_mem _ hp)
    · have hb : (k == NameKind.free) = false := by simpa using hk
      simp only [hb, Bool.false_eq_true, if_false, pure_bind, clGo]
      exact clGo_eq env r _ fun p hp => h p (List.mem_cons_of_mem _ hp)
theorem closure_is {scope : Scope} {env : Env} (h : ∀ p ∈ scope.names, p.2 = .free → ∃ c, env.cells.lookup p.1 = some c) : closureFor scope env = pure (clGo env scope.names []) := by
  unfold closureFor
  have e := clGo_eq env scope.names [] h
  dsimp only
  rw [e]
  rfl
theorem clGo_lookup (env : Env) {y : Str} : ∀ (names : List (Str × NameKind)) (acc : List (Str × Addr)), (∀ p ∈ names, p.2 = .free → ∃ c, env.cells.lookup p.1 = some c) →
    ∀ c, (clGo env names acc).lookup y = some c → acc.lookup y = some c ∨ (env.cells.lookup y = some c)
  | [], _, _, _, e => .inl e
  | (n, k) :: r, acc, h, c, e => by
    rw [clGo] at e
    by_cases hk : (k == NameKind.free) = true
    · rw [if_pos hk] at e
      have hk' : k = NameKind.free := by simpa using hk
      obtain ⟨c', hc'⟩ := h (n, k) List.mem_cons_self hk'
      rcases clGo_lookup env r _ (fun p hp => h p (List.mem_cons_of_mem _ hp)) c e with q | q
      · rw [List.lookup_cons] at q
        cases hb : y == n with
        | true =>
          rw [hb] at q
          have hb' : y = n := eq_of_beq hb
          subst hb'
          have hc'' : env.cells.lookup y = some c' := hc'
          rw [hc'', Option.getD_some] at q
          rw [hc'']
          exact .inr q
        | false => rw [hb] at q; exact .inl q
      · exact .inr q
    · rw [if_neg hk] at e
      exact clGo_lookup env r _ (fun p hp => h p (List.mem_cons_of_mem _ hp)) c e
theorem clGo_has (env : Env) {y : Str} : ∀ (names : List (Str × NameKind)) (acc : List (Str × Addr)), (y, NameKind.free) ∈ names ∨ (∃ c, acc.lookup y = some c) → ∃ c, (clGo env names acc).lookup y = some c
  | [], _, h => h.elim (fun z => nomatch z) id
  | (n, k) :: r, acc, h => by
    rw [clGo]
    have up : ∀ v : Addr, (∃ c, acc.lookup y = some c) → ∃ c, ((n, v) :: acc).lookup y = some c := fun v ⟨c, e⟩ => by
      rw [List.lookup_cons]
      cases hb : y == n with
      | true => exact ⟨v, rfl⟩
      | false => exact ⟨c, e⟩
    by_cases hk : (k == NameKind.free) = true
    · rw [if_pos hk]
      refine clGo_has env r _ ?_
      rcases h with h | h
      · rcases List.mem_cons.mp h with z | z
        · cases z
          exact .inr ⟨(env.cells.lookup y).getD 0, by rw [List.lookup_cons, beq_self_eq_true]⟩
        · exact .inl z
      · exact .inr (up _ h)
    · rw [if_neg hk]
      refine clGo_has env r _ ?_
      rcases h with h | h
      · rcases List.mem_cons.mp h with z | z
        · cases z
          exact absurd rfl hk
        · exact .inl z
      · exact .inr h

def rlb (env : Env) (n : Str) (k : NameKind) : NameKind := if (k == .free && env.scope.kind == .function && env.kindOf n == some .cell) = true then .cell else k
theorem relabel_lookup (env : Env) (y : Str) : ∀ names : List (Str × NameKind),
    (names.map fun (n, k) => if (k == NameKind.free && env.scope.kind == .function && env.kindOf n == some .cell) = true then (n, NameKind.cell) else (n, k)).lookup y = (names.lookup y).map (rlb env y)
  | [] => rfl
  | (n, k) :: r => by
    have e : (if (k == NameKind.free && env.scope.kind == .function && env.kindOf n == some .cell) = true then (n, NameKind.cell) else (n, k)) = (n, rlb env n k) := by
      unfold rlb; split <;> rfl
    rw [List.map_cons]
    show List.lookup y ((if (k == NameKind.free && env.scope.kind == .function && env.kindOf n == some .cell) = true then (n, NameKind.cell) else (n, k)) :: _) = _
    rw [e, List.lookup_cons, List.lookup_cons]
    cases hb : y == n with
    | true => have := eq_of_beq hb; subst this; rfl
    | false => exact relabel_lookup env y r
theorem relabel_kind (scope : Scope) (env : Env) (y : Str) : (relabel scope env).names.lookup y = (scope.names.lookup y).map (rlb env y) := relabel_lookup env y scope.names
theorem mem_of_lookup {α β : Type} [BEq α] [LawfulBEq α] {y : α} {k : β} : ∀ {l : List (α × β)}, l.lookup y = some k → (y, k) ∈ l
  | (n, j) :: r, e => by
    rw [List.lookup_cons] at e
    cases hb : y == n with
    | true => rw [hb] at e; have := eq_of_beq hb; subst this; cases e; exact List.mem_cons_self
    | false => rw [hb] at e; exact List.mem_cons_of_mem _ (mem_of_lookup e)
structure CpScope (sc : Scope) (x : Str) (scope : Scope) : Prop where
  kind : scope.kind = .function
  cell : ∀ y ∈ scope.names, y.2 ≠ .cell
  own : scope.names.lookup x = some .local
  loc : ∀ y ∈ scope.names, y.2 = .local → y.1 = x ∨ y.1 = (".0" : Str)
  nam : ∀ y ∈ scope.names, y.2 = .local → scope.names.lookup y.1 = some .local
  free : ∀ y ∈ scope.names, y.2 = .free → sc.names.lookup y.1 = some .cell ∨ sc.names.lookup y.1 = some .free
  two : ∀ y ∈ scope.names, y.2 = .free → y.1 ≠ x
def Cx.comp (X : Cx) (scope : Scope) (x : Str) (C : Addr) (s : Shared) (H : Hp) (ex : List Addr) : Cx :=
  { X with N := x :: X.N, s₀ := s, H₀ := H, env := compEnvC scope (clGo X.env scope.names []) C X.env, outer := X.stack, ex := ex, fn := fun _ => false, pn := [], xe := fun _ _ => False }
section
variable {X : Cx} {pins : List (Addr × Obj)} {σ : St} {H : Hp} {s : Shared} {scope : Scope} {x : Str}
theorem CpScope.has (S : CpScope X.env.scope x scope) (ok : X.Ok) : ∀ p ∈ scope.names, p.2 = .free → ∃ c, X.env.cells.lookup p.1 = some c := fun p hp e => ok.has p.1 (S.free p hp e)
theorem CpScope.cells (S : CpScope X.env.scope x scope) (ok : X.Ok) {y : Str} {c : Addr} (e : (clGo X.env scope.names []).lookup y = some c) : X.env.cells.lookup y = some c := by
  rcases clGo_lookup X.env scope.names [] (S.has ok) c e with z | z
  · cases z
  · exact z
theorem CpScope.sees (S : CpScope X.env.scope x scope) {y : Str} (hy : (relabel scope X.env).names.lookup y ≠ some .local) (hv : Vis (relabel scope X.env) y) : (y, NameKind.free) ∈ scope.names ∧ ((relabel scope X.env).names.lookup y = some .cell ∨ (relabel scope X.env).names.lookup y = some .free) := by
  unfold Vis at hv
  rw [relabel_kind] at hv ⊢
  cases e : scope.names.lookup y with
  | none => rw [e] at hv; rcases hv with z | z | z <;> cases z
  | some k =>
    have hm := mem_of_lookup e
    rw [e] at hv
    have hk : k = .free := by
      by_cases hf : k = .free
      · exact hf
      · have hr : rlb X.env y k = k := by
          unfold rlb
          have : (k == NameKind.free) = false := by simpa using hf
          rw [this]; rfl
        rw [Option.map_some, hr] at hv
        rcases hv with z | z | z
        · rw [relabel_kind, e, Option.map_some, hr] at hy
          exact absurd z hy
        · exact absurd (Option.some.inj z) (S.cell _ hm)
        · exact Option.some.inj z
    subst hk
    refine ⟨hm, ?_⟩
    rw [Option.map_some]
    unfold rlb
    split
    · exact .inl rfl
    · exact .inr rfl
theorem CpScope.ok (S : CpScope X.env.scope x scope) (I : Inv X pins σ H s) {C : Addr} (hC : s.heap.objs.size ≤ C) {fp : List Addr} (hf : ∀ b ∈ fp, FpOk X pins H b) (hl : ∀ b ∈ fp, b < s.heap.objs.size) : (X.comp scope x C s H fp).Ok where
  mod := I.ok.mod
  kind := S.kind
  glob := I.ok.glob
  blt := I.ok.blt
  above := hC
  inj := fun y z c e1 e2 => I.ok.inj y z c (S.cells I.ok e1) (S.cells I.ok e2)
  has := fun y hy => by
    have hv : Vis (relabel scope X.env) y := .inr hy
    have hne : (relabel scope X.env).names.lookup y ≠ some .local := fun e => by
      have hy' : (relabel scope X.env).names.lookup y = some .cell ∨ (relabel scope X.env).names.lookup y = some .free := hy
      rw [e] at hy'
      rcases hy' with q | q <;> cases q
    exact clGo_has X.env scope.names [] (.inl (S.sees hne hv).1)
  cab := fun _ _ z => nomatch z
  hd := I.ok.hd
  frames := I.ok.frames
  stk := .inl rfl
  exf := fun b hb => ⟨fun z => by
      have h1 := hl b hb
      have z' : b = C := z
      rw [z'] at h1
      exact Nat.not_le.mpr h1 hC, fun y c e => (hf b hb).2.2.2.2.1 y c (S.cells I.ok e)⟩
  bs := I.bs
  bsz := Nat.le_trans I.ok.bsz I.sz
  noex := fun b o e hb => by
    rcases (hf b hb).2.2.2.1 with z | z
    · exact I.ok.noex b o e z
    · have h1 := Heap.lt_size e
      have h2 := I.ok.bsz
      exact absurd (Nat.lt_of_lt_of_le (Nat.lt_of_lt_of_le h1 h2) z) (Nat.lt_irrefl _)
  exfs := fun b hb z => by
    rcases List.mem_cons.mp (I.stkSub b z) with q | q
    · exact (hf b hb).2.1 q
    · exact (hf b hb).2.2.1 q
  funs := I.stack
  frf := I.stkFree
theorem CpScope.inv (S : CpScope X.env.scope x scope) (hx : x ∉ X.N) (h0 : (".0" : Str) ∉ X.N) (I : Inv X pins σ H s) {C : Addr} (hC : s.heap.objs.size ≤ C) {fp : List Addr} (hf : ∀ b ∈ fp, FpOk X pins H b) (hl : ∀ b ∈ fp, b < s.heap.objs.size) {h1 : Heap} {t1 : Nat}
    (old : ∀ b o, s.heap.get? b = some o → h1.get? b = some o) {m : Str → Option Value} (ns : h1.Ns C m) : Inv (X.comp scope x C s H fp) [] (none :: σ) H { s with heap := h1, toks := t1 } where
  ok := S.ok I hC hf hl
  os := rfl
  bare := I.bare
  base := Un.kept old
  loc := by
    refine ⟨m, ns, fun i y v e1 e2 hv => ?_⟩
    cases i with
    | zero => cases e2
    | succ j =>
      have e1' : X.N[j]? = some y := by simpa [Cx.comp] using e1
      have e2' : σ[j]? = some (some v) := by simpa using e2
      by_cases hy : (relabel scope X.env).names.lookup y = some .local
      · exfalso
        rw [relabel_kind] at hy
        cases e : scope.names.lookup y with
        | none => rw [e] at hy; cases hy
        | some k =>
          rw [e, Option.map_some] at hy
          have hk : k = .local := by
            have hy' := Option.some.inj hy
            unfold rlb at hy'
            split at hy'
            · cases hy'
            · exact hy'
          rcases S.loc _ (mem_of_lookup e) hk with z | z
          · have z' : y = x := z
            subst z'; exact hx (List.mem_of_getElem? e1')
          · have z' : y = (".0" : Str) := z
            subst z'; exact h0 (List.mem_of_getElem? e1')
      · obtain ⟨hm, hk⟩ := S.sees hy hv
        obtain ⟨m0, _, hl0⟩ := I.loc
        have hx0 : Vis X.env.scope y := .inr (S.free _ hm rfl)
        obtain ⟨u, r, l⟩ := hl0 j y v e1' e2' hx0
        refine ⟨u, r, .inr ⟨hk, ?_⟩⟩
        obtain ⟨c, hc⟩ := clGo_has X.env scope.names [] (.inl hm)
        refine ⟨c, hc, ?_⟩
        have hc0 := S.cells I.ok hc
        rcases l with ⟨k0, _⟩ | ⟨_, c0, e0, q0⟩
        · rcases S.free _ hm rfl with z | z
          · have k0' : X.env.scope.names.lookup y = some .local := k0
            rw [z] at k0'; cases k0'
          · have k0' : X.env.scope.names.lookup y = some .local := k0
            rw [z] at k0'; cases k0'
        · rw [hc0] at e0; cases e0
          obtain ⟨o, ho, hd⟩ := q0
          exact ⟨o, old _ _ ho, hd⟩
  cell := fun y c e => by
    obtain ⟨v, o, ho, hd⟩ := I.cell y c (S.cells I.ok e)
    exact ⟨v, o, old _ _ ho, hd⟩
  free := I.hok.fresh hC
  freeC := fun y c e => I.freeC y c (S.cells I.ok e)
  pin := fun p hp => by cases hp
  hok := I.hok.kept old
  len := by simp [Cx.comp, I.len]
end
def PIfs (X : Cx) (ifs : List Expr) (t : TT) : Prop :=
  ∀ (pins : List (Addr × Obj)) (s : Shared) (σ : St) (H : Hp) (Q : Bool → Hp → Prop), Inv X pins σ H s → t σ H Q →
    wpAny (model X.prog X.w) X.A (forIn ifs true fun c r => if r = true then do let ok ← isTrue c X.env (eval c X.env); pure (ForInStep.yield ok) else pure (ForInStep.yield r)) (TP X pins σ Q) X.xe s
def tYes : TT := fun _ H Q => Q true H
theorem pif_nil {X : Cx} : PIfs X [] tYes := fun _ _ _ H _ I h => wpAny_tests_nil ⟨H, I, h⟩
theorem pif_one {X : Cx} {c : Expr} {t : TT} (h : PT X c t) : PIfs X [c] t := fun pins s σ H Q I q => wpAny_tests_one (h pins s σ H Q I q)
theorem compLoop_any {prog : Program} {w : World} {A : Around} {R : Result → Shared → Prop} {s : Shared} {elt target iter : Expr} {ifs : List Expr} {scope : Scope} {pos : Pos} {it acc : Value} {env : Env} (I : Nat → Shared → Prop)
    (turn : ∀ n s, I n s → wpAny (model prog w) A (pyNext it) (fun r s₁ => match r with
      | none => R (.ok .next) s₁
      | some v => wpAny (model prog w) A (letOwnedTupleGo target it v) (fun _ s₀ => wpAny (model prog w) A (assign target env v) (fun _ s₂ =>
          wpAny (model prog w) A (forIn ifs true fun c r => if r = true then do let ok ← isTrue c env (eval c env); pure (ForInStep.yield ok) else pure (ForInStep.yield r)) (fun ok s₃ =>
            if ok = true then wpAny (model prog w) A (eval elt env) (fun x s₄ =>
              wpAny (model prog w) A (call (.builtin "list.append") [acc, x]) (fun _ s₅ => ∃ m, m < n ∧ I m s₅) (fun _ _ => False) s₄) (fun _ _ => False) s₃
            else ∃ m, m < n ∧ I m s₃) (fun _ _ => False) s₂) (fun _ _ => False) s₀) (fun _ _ => False) s₁) (fun _ _ => False) s)
    (n : Nat) (h : I n s) : codeAny (model prog w) A (.compLoop (.ListComp elt [⟨target, iter, ifs, 0⟩] scope pos) 0 it acc env) R s := by
  refine codeAny_loop rfl I (fun n s hI => ?_) n h
  show wpAny _ A ((compTurn (.ListComp elt [⟨target, iter, ifs, 0⟩] scope pos) 0 it acc env).onRaise (fun x => do noteFrame x env; theTreesLotGoes x)) _ _ s
  refine wpAny_noted ?_
  rw [compTurn_list]
  refine wpAny_bind (wpAny_standAt (wpAny_bind (wpAny_mono (turn n s hI) (fun r s₁ h₁ => ?_) fun _ _ h' => h'.elim)))
  cases r with
  | none => exact wpAny_pure h₁
  | some v =>
    refine wpAny_bind (wpAny_mono h₁ (fun _ s₀ h₀ => ?_) fun _ _ h' => h'.elim)
    refine wpAny_bind (wpAny_mono h₀ (fun _ s₂ h₂ => wpAny_bind (wpAny_mono h₂ (fun ok s₃ h₃ => ?_) fun _ _ h' => h'.elim)) fun _ _ h' => h'.elim)
    cases ok with
    | false => exact wpAny_pure ⟨rfl, h₃⟩
    | true =>
      exact wpAny_bind (wpAny_bind (wpAny_mono h₃ (fun x s₄ h₄ => wpAny_bind (wpAny_mono h₄ (fun _ s₅ h₅ => wpAny_pure (wpAny_pure ⟨rfl, h₅⟩)) fun _ _ h' => h'.elim)) fun _ _ h' => h'.elim))
def tComp (wi : TI) (tt : TT) (te : TE) : TE := fun σ H Q => wi σ H fun J H1 => ∃ W : Nat → Nat → List V → Hp → Prop, (∃ m, W 0 m [] H1) ∧ ∀ i m ys H, W i m ys H →
  (J.stop i H ∧ ∀ p, H p = none → Q (.ref p) (upd H p (.lst ys))) ∨
  (J.go i H ∧ ys.length < sizeLine ∧ ∃ N : List V → Hp → Prop, (∀ ys' H', N ys' H' → ∃ m', m' < m ∧ W (i + 1) m' ys' H') ∧
    ∀ x H', J.yld i H x H' → tt (some x :: σ) H' fun b H2 => if b = true then te (some x :: σ) H2 fun y H3 => N (ys ++ [y]) H3 else N ys H2)
section
variable {X : Cx} {scope : Scope} {x : Str} {px pos : Pos} {elt iter : Expr} {ifs : List Expr} {wi : TI} {tt : TT} {te : TE}
theorem comp_core {sc : Scope} {use : Option (Value → Sem Unit)} {QQ : Value → Shared → Prop} {Q : VK} {pins : List (Addr × Obj)} {s : Shared} {σ : St} {H : Hp} {cpos : Pos} (hsc : X.env.scope = sc) (S : CpScope sc x scope) (hx : x ∉ X.N) (h0 : (".0" : Str) ∉ X.N) (hN : X.N.Nodup) (hc : X.calm = true) (hi : PI X (.Name x px) iter wi)
    (ht : ∀ C s H ex, PIfs (X.comp scope x C s H ex) ifs tt) (he : ∀ C s H ex, PE (X.comp scope x C s H ex) elt te) (I : Inv X pins σ H s) (h : tComp wi tt te σ H Q)
    (fin : ∀ (D C : Addr) (s4 : Shared) (H4 : Hp), C ≠ X.env.locals → (∀ y c, X.env.cells.lookup y = some c → c ≠ C) → (∀ p ∈ X.pn ++ pins, p.1 ≠ C) → X.s₀.heap.objs.size ≤ C → H4 C = none → (∃ m, s4.heap.Ns C m) →
      (∀ h', Heap.SameBut C s4.heap h' → Inv X pins σ H4 { s4 with heap := h' }) → Q (.ref D) H4 → compPost (model X.prog X.w) X.A X.xe use QQ (.ref D) C (.ok .next) s4)
    (hs : ∀ v, foldedSetIterable iter X.env v = pure v) :
    wpAny (model X.prog X.w) X.A (comprehension (.ListComp elt [⟨.Name x px, iter, ifs, 0⟩] scope pos) scope X.env cpos (newList []) false (eval iter X.env) use) QQ X.xe s := by
  subst hsc
  have hnames := S.nam
  refine wpAny_comprehension_free (use := use) rfl hs (closure_is (S.has I.ok)) S.kind hnames (thn (hi pins s σ H _ I h) fun v s1 h1 => thn h1 fun itv s2 h2 => ?_)
  obtain ⟨it, fp, tn, J, H2, e, I2, T, st2, f2, W, ⟨m0, w0⟩, turn⟩ := h2
  subst e
  refine wpAny_newObj_type (wpAny_newFunctionEnv S.cell (by intro y hy; simp at hy) (fun h₁ hns₁ hsb₁ => ?_) S.kind)
  dsimp only at hns₁ hsb₁ ⊢
  generalize hG : s2.heap.push { cls := .type "list", dict := none, data := .seq ([] : List Value).toArray } = G at hns₁ hsb₁ ⊢
  have hC : G.objs.size = s2.heap.objs.size + 1 := by rw [← hG, Heap.size_push]
  have hDC : s2.heap.objs.size ≠ G.objs.size := by omega
  have below : ∀ b, b < s2.heap.objs.size → b ≠ G.objs.size ∧ b ≠ s2.heap.objs.size := fun b hb => ⟨by omega, by omega⟩
  have old : ∀ b o, s2.heap.get? b = some o → h₁.get? b = some o := fun b o e => hsb₁.extBut b o (below b (Heap.lt_size e)).1 (Heap.get?_push_of_some _ (hG ▸ Heap.get?_push_of_some _ e))
  have hacc : h₁.get? s2.heap.objs.size = some { cls := .type "list", data := .seq ([] : List Value).toArray } := hsb₁.extBut _ _ hDC (Heap.get?_push_of_some _ (hG ▸ Heap.get?_push_size _ rfl))
  have hlt : ∀ b ∈ fp, b < s2.heap.objs.size := fun b hb => by
    obtain ⟨o, e, _⟩ := T.obj _ _ st2 b hb
    exact Heap.lt_size e
  have ctop : ∀ y c, (clGo X.env scope.names []).lookup y = some c → c < s2.heap.objs.size := fun y c e => by
    obtain ⟨v, q⟩ := I2.cell y c (S.cells I2.ok e)
    exact q.lt
  have hCle : s2.heap.objs.size ≤ G.objs.size := by omega
  have IY : ∀ t1, Inv (X.comp scope x G.objs.size s2 H2 fp) [] (none :: σ) H2 { s2 with heap := h₁, toks := t1 } := fun t1 => S.inv hx h0 I2 hCle f2 hlt old hns₁
  have nost : ∀ b, s2.heap.objs.size ≤ b → b ∉ frs X.stack := fun b hb z => by
    rcases List.mem_cons.mp (I2.stkSub b z) with q | q
    · exact Nat.not_le.mpr I2.lt (q ▸ hb)
    · exact I2.nofs hb q
  have hD : s2.heap.objs.size ∉ frs X.stack := nost _ (Nat.le_refl _)
  have ptop : ∀ {pl : List (Addr × Obj)} {H' : Hp}, (∀ b ∈ fp, H' b = none) → (∀ p ∈ pl, p.1 ∉ fp) → ∀ b ∈ fp, FpOk (X.comp scope x G.objs.size s2 H2 fp) pl H' b := fun {pl H'} hn hp b hb =>
    ⟨hn b hb, fun z => (below b (hlt b hb)).1 z, fun z => (S.ok I2 hCle f2 hlt).exfs b hb z, .inl hb, fun y c e => (f2 b hb).2.2.2.2.1 y c (S.cells I2.ok e), fun p hp' z => hp p hp' (z ▸ hb)⟩
  have Dfp : s2.heap.objs.size ∉ fp := fun z => Nat.lt_irrefl _ (hlt _ z)
  have loop : ∀ t1, codeAny (model X.prog X.w) X.A (.compLoop (.ListComp elt [⟨.Name x px, iter, ifs, 0⟩] scope pos) 0 (.ref it) (.ref s2.heap.objs.size) (compEnvC scope (clGo X.env scope.names []) G.objs.size X.env))
      (compPost (model X.prog X.w) X.A X.xe use QQ (.ref s2.heap.objs.size) G.objs.size) { s2 with heap := h₁, toks := t1 } := by
    intro t1
    refine compLoop_any (fun n s' => ∃ i o H' ys its k, Inv (X.comp scope x G.objs.size s2 H2 fp) [(s2.heap.objs.size, { cls := .type "list", data := .seq its k })] (o :: σ) H' s' ∧ tn i s'.heap ∧ (∀ b ∈ fp, H' b = none) ∧ Vals ys its.toList ∧ ys.length ≤ sizeLine ∧ W i n ys H')
      ?_ m0 ⟨0, none, H2, [], #[], 0, ?_, T.keep _ _ _ st2 fun b _ o e => old b o e, fun b hb => (f2 b hb).1, .nil, Nat.zero_le _, w0⟩
    · rintro n s3 ⟨i, o, H3, ys, its, k, I3, st3, fr3, vs3, z3, w3⟩
      have pD : ∀ p ∈ [(s2.heap.objs.size, ({ cls := .type "list", data := .seq its k } : Obj))], p.1 ∉ fp := fun p hp => by
        have e : p = _ := List.mem_singleton.mp hp
        subst e; exact Dfp
      rcases turn i n ys H3 w3 with ⟨stop, qn⟩ | ⟨go, hz, N, hN', step⟩
      · refine wpAny_mono (T.done (X.comp scope x G.objs.size s2 H2 fp) rfl rfl rfl hc i _ s3 (o :: σ) H3 (fun _ _ => False) I3 (ptop fr3 pD) st3 stop) (fun r s4 ⟨hr, I4⟩ => ?_) fun _ _ f => f
        subst hr
        obtain ⟨m4, hn4, _⟩ := I4.loc
        obtain ⟨eD, nD, _⟩ := I4.pin _ (List.mem_singleton.mpr rfl)
        have nC : H3 G.objs.size = none := I4.free
        refine fin s2.heap.objs.size G.objs.size s4 (upd H3 s2.heap.objs.size (.lst ys)) (fun z => Nat.not_le.mpr I2.lt (z ▸ hCle)) (fun y c e z => ?_) (fun p hp z => ?_) (Nat.le_trans I2.sz hCle) (by rw [upd_ne (Ne.symm hDC)]; exact nC) ⟨m4, hn4⟩ (fun h' hs' => ?_) (qn _ nD)
        · obtain ⟨v, q⟩ := I2.cell y c e
          exact Nat.not_le.mpr q.lt (z ▸ hCle)
        · exact Nat.not_le.mpr (Heap.lt_size (I2.pin p hp).1) (z ▸ hCle)
        have eD' : h'.get? s2.heap.objs.size = some { cls := .type "list", data := .seq its k } := hs'.extBut _ _ hDC eD
        have stp : ∀ b o, s2.heap.get? b = some o → b ≠ G.objs.size ∧ b ≠ s2.heap.objs.size := fun b o e => below b (Heap.lt_size e)
        have un : Un (frs X.stack) fp H2 (upd H3 s2.heap.objs.size (.lst ys)) s2.heap h' := by
          have B := I4.base
          refine ⟨fun b o e n1 n2 n3 => hs'.extBut _ _ (stp b o e).1 (B.keep b o e n1 n2 n3), fun b o e n1 n2 n3 => ?_, fun b o e n1 n3 => ?_, fun b o e n3 => ?_, fun b xs e => ?_, fun b o u e => ?_, fun b ps e => ?_⟩
          · obtain ⟨sl, q⟩ := B.slot b o e n1 n2 n3
            exact ⟨sl, hs'.extBut _ _ (stp b o e).1 q⟩
          · rw [upd_ne (stp b o e).2]; exact B.free b o e n1 n3
          · obtain ⟨o', q⟩ := B.there b o e n3
            exact ⟨o', hs'.extBut _ _ (stp b o e).1 q⟩
          · have q := B.tups b xs e
            rw [upd_ne (ne_of_none q nD)]; exact q
          · have q := B.frzs b o u e
            rw [upd_ne (ne_of_none q nD)]; exact q
          · obtain ⟨more, q⟩ := B.tbls b ps e
            exact ⟨more, by rw [upd_ne (ne_of_none q nD)]; exact q⟩
        have hok : HOk X.prog X.w (upd H3 s2.heap.objs.size (.lst ys)) h' := fun b u e => by
          by_cases hb : b = s2.heap.objs.size
          · subst hb
            rw [upd_same] at e
            cases e
            exact ⟨z3, its.toList, k, vs3, by simpa using eD'⟩
          · rw [upd_ne hb] at e
            refine (I4.hok b u e).stay (fun c v hc' q => hs'.extBut _ _ (fun z => ?_) q) (fun c q => by rw [upd_ne (ne_of_none q nD)]; exact q) fun c xs q => by rw [upd_ne (ne_of_none q nD)]; exact q
            rcases hc' with r | r
            · rw [r] at z; rw [z, nC] at e; cases e
            · rw [z, nC] at r; cases r
        refine I2.call' (s' := { s4 with heap := h' }) I4.os un hok I4.bare (fun b hb => ?_)
        obtain ⟨f0, f1, f2', f3, f4, f5⟩ := f2 b hb
        exact ⟨f3, f1, f4, f5⟩
      · refine wpAny_mono (T.item (X.comp scope x G.objs.size s2 H2 fp) rfl rfl rfl hc i _ s3 (o :: σ) H3 (fun _ _ => False) I3 (ptop fr3 pD) st3 go) (fun r s4 ⟨u, hr, h4⟩ => ?_) fun _ _ f => f
        subst hr
        refine wpAny_mono h4 (fun _ s5 ⟨v5, H5, I5, r5, y5, st5, fr5⟩ => ?_) fun _ _ f => f
        have I5' := I5.pinned (ptop fr5 pD) (T.obj _ _ st5)
        have hnd : (X.comp scope x G.objs.size s2 H2 fp).N.Nodup := List.nodup_cons.mpr ⟨hx, hN⟩
        have hloc : (relabel scope X.env).names.lookup x = some .local := lookup_relabel_local S.own
        refine wpAny_mono (pg_name (X := X.comp scope x G.objs.size s2 H2 fp) (i := 0) (pos := px) hnd rfl (.inl hloc) (.inr hloc) _ s5 (o :: σ) H5 v5 u (fun σ6 H6 => σ6 = some v5 :: σ ∧ H6 = H5) I5' r5 ⟨rfl, rfl⟩) (fun _ s6 ⟨σ6, H6, I6, e6, e6'⟩ => ?_) fun _ _ f => f
        subst e6 e6'
        have later : ∀ {σ7 : St} {H7 : Hp} {s7 : Shared}, Inv (X.comp scope x G.objs.size s2 H2 fp) ([(s2.heap.objs.size, { cls := .type "list", data := .seq its k })] ++ pinsAt fp s5.heap) σ7 H7 s7 → tn (i + 1) s7.heap ∧ (∀ b ∈ fp, H7 b = none) := fun {σ7 H7 s7} I7 =>
          ⟨T.keep _ _ _ st5 fun b hb o e => (I7.pin (b, o) (List.mem_append_right _ (List.mem_append_right _ (mem_pinsAt hb e)))).1, fun b hb => by
            obtain ⟨o, e, d⟩ := T.obj _ _ st5 b hb
            exact (I7.pin (b, o) (List.mem_append_right _ (List.mem_append_right _ (mem_pinsAt hb e)))).2.1⟩
        refine wpAny_mono (ht _ _ _ _ _ s6 (some v5 :: σ) H6 _ I6 (step v5 H6 y5)) (fun ok s7 ⟨H7, I7, q7⟩ => ?_) fun _ _ f => f
        cases ok with
        | false =>
          obtain ⟨m', hm, w7⟩ := hN' _ _ q7
          exact ⟨m', hm, i + 1, some v5, H7, ys, its, k, I7.unpinned, (later I7).1, (later I7).2, vs3, z3, w7⟩
        | true =>
          refine wpAny_mono (he _ _ _ _ _ s7 (some v5 :: σ) H7 _ I7 q7) (fun uy s8 ⟨y8, H8, I8, r8, q8⟩ => ?_) fun _ _ f => f
          obtain ⟨m', hm, w8⟩ := hN' _ _ q8
          obtain ⟨eD, nD, _⟩ := I8.pin (s2.heap.objs.size, { cls := .type "list", data := .seq its k }) (List.mem_append_right _ (List.mem_append_left _ (List.mem_singleton.mpr rfl)))
          have hsz : its.size ≤ sizeLine := by
            have := vs3.length
            have e2 : its.toList.length = its.size := by simp
            omega
          refine wpAny_list_append_plain (hsz := hsz) ⟨k, eD⟩ fun h9 pl9 sb9 => ?_
          obtain ⟨k9, e9⟩ := pl9
          obtain ⟨st8, fr8⟩ := later I8
          have I8' : Inv (X.comp scope x G.objs.size s2 H2 fp) [] (some v5 :: σ) H8 s8 := I8.pins_of fun p hp => nomatch hp
          have I9 : Inv (X.comp scope x G.objs.size s2 H2 fp) [] (some v5 :: σ) H8 { s8 with heap := h9 } :=
            I8'.turned (t' := s8.toks) (fun b o hb e => sb9.extBut b o hb e) nD hDC (.inr (Nat.le_refl _)) (fun y c e z => by have := ctop y c e; rw [z] at this; exact Nat.lt_irrefl _ this) fun p hp => nomatch hp
          refine ⟨m', hm, i + 1, some v5, H8, ys ++ [y8], its.push uy, k9, I9.pins_of fun p hp => ?_, T.keep _ _ _ st8 fun b hb o e => sb9.extBut b o (fun z => Dfp (z ▸ hb)) e, fr8, ?_, ?_, w8⟩
          · have e : p = _ := List.mem_singleton.mp hp
            subst e
            exact ⟨e9, nD, hDC, hD, fun v z => by cases z⟩
          · rw [Array.toList_push]
            exact vs3.append (.cons r8 .nil)
          · rw [List.length_append, List.length_singleton]; omega
    · refine (IY t1).pins_of fun p hp => ?_
      have e : p = _ := List.mem_singleton.mp hp
      subst e
      exact ⟨hacc, I2.hok.fresh (Nat.le_refl _), hDC, hD, fun v z => by cases z⟩
  exact codeAny_compStart_list (loop _) (T.self _ 0 _ _ _ (T.keep _ _ _ st2 fun b _ o e => old b o e) (loop _))
theorem pe_comp {sc : Scope} (hsc : X.env.scope = sc) (S : CpScope sc x scope) (hx : x ∉ X.N) (h0 : (".0" : Str) ∉ X.N) (hN : X.N.Nodup) (hc : X.calm = true) (hi : PI X (.Name x px) iter wi)
    (ht : ∀ C s H ex, PIfs (X.comp scope x C s H ex) ifs tt) (he : ∀ C s H ex, PE (X.comp scope x C s H ex) elt te) (hs : ∀ v, foldedSetIterable iter X.env v = pure v := by intro _; rfl) :
    PE X (.ListComp elt [⟨.Name x px, iter, ifs, 0⟩] scope pos) (tComp wi tt te) := by
  intro pins s σ H Q I h
  rw [eval_ListComp]
  exact comp_core (use := none) hsc S hx h0 hN hc hi ht he I h (fun D C s4 H4 _ _ _ _ _ hn inv q => let ⟨m, hn⟩ := hn; ⟨m, hn, fun h' hs' => ⟨.ref D, H4, inv h' hs', rfl, q⟩⟩) hs
theorem ps_setC {sc : Scope} {i : Nat} {y : Str} {py spos : Pos} (hi' : X.N[i]? = some y) (hy : Loc X.env.scope y) (hsc : X.env.scope = sc) (S : CpScope sc x scope) (hx : x ∉ X.N) (h0 : (".0" : Str) ∉ X.N) (hN : X.N.Nodup) (hc : X.calm = true) (hi : PI X (.Name x px) iter wi)
    (ht : ∀ C s H ex, PIfs (X.comp scope x C s H ex) ifs tt) (he : ∀ C s H ex, PE (X.comp scope x C s H ex) elt te) (hs : ∀ v, foldedSetIterable iter X.env v = pure v := by intro _; rfl)
    (hsw : swapsWith (.ListComp elt [⟨.Name x px, iter, ifs, 0⟩] scope pos) (some (.Name y py)) spos.line X.env = pure true := by rfl)
    (hf : X.fn y = true ∨ X.env.scope.names.lookup y = some .local := by first | exact .inl rfl | exact .inr rfl | assumption) :
    PS X (.Assign [.Name y py] (.ListComp elt [⟨.Name x px, iter, ifs, 0⟩] scope pos) spos) (tAsg (tComp wi tt te) (gName i)) := by
  intro pins s σ H D I h
  rw [exec_Assign_Name_used _ _ _ _ hsw]
  refine wpAny_bind (wpAny_standAt (wpAny_bind ?_))
  show wpAny _ X.A (do let _ ← comprehension (.ListComp elt [⟨.Name x px, iter, ifs, 0⟩] scope pos) scope X.env _ (newList []) false (eval iter X.env) (some (assign (.Name y py) X.env))) _ _ s
  refine wpAny_bind (wpAny_mono (comp_core (use := some (assign (.Name y py) X.env)) (QQ := fun _ s' => SP X pins D .next s') hsc S hx h0 hN hc hi ht he I h (fun D' C s4 H4 c1 c2 c3 c4 c5 hn inv q => ?_) hs) (fun _ s' hq => wpAny_pure (wpAny_pure hq)) fun _ _ e => e)
  obtain ⟨m, hn⟩ := hn
  show wpAny _ X.A (assign (.Name y py) X.env (.ref D')) _ _ s4
  refine wpAny_assign_Name (store_ok2 (v := .ref D') (inv s4.heap (.refl ..)) hN hi' hy rfl (fun s5 I5 ⟨a, sb, ha⟩ => ?_) hf)
  have hCa : C ≠ a := by
    rcases ha with r | r
    · rw [r]; exact c1
    · exact fun z => c2 _ _ r z.symm
  exact ⟨m, hn.sameBut sb hCa, fun h' hs' => ⟨_, H4, I5.turned (t' := s5.toks) (fun b o hb e => hs'.extBut b o hb e) c5 c1 (.inr c4) c2 c3, q⟩⟩
end
theorem comp_range {n : Nat} {tt : TT} {te : TE} {Q : VK} {σ : St} {H : Hp} (Pv : Nat → List V → Hp → Prop) (hn : n ≤ 1000) (h0 : Pv 0 [] H) (hl : ∀ i ys H, Pv i ys H → ys.length ≤ i)
    (hs : ∀ i ys H, i < n → Pv i ys H → tt (some (.int (i : Int)) :: σ) H fun b H2 => if b = true then te (some (.int (i : Int)) :: σ) H2 fun y H3 => Pv (i + 1) (ys ++ [y]) H3 else Pv (i + 1) ys H2)
    (hd : ∀ ys H, Pv n ys H → ∀ p, H p = none → Q (.ref p) (upd H p (.lst ys))) :
    ∃ W : Nat → Nat → List V → Hp → Prop, (∃ m, W 0 m [] H) ∧ ∀ i m ys H, W i m ys H → ((Itr 0 n).stop i H ∧ ∀ p, H p = none → Q (.ref p) (upd H p (.lst ys))) ∨
      ((Itr 0 n).go i H ∧ ys.length < sizeLine ∧ ∃ N : List V → Hp → Prop, (∀ ys' H', N ys' H' → ∃ m', m' < m ∧ W (i + 1) m' ys' H') ∧
        ∀ x H', (Itr 0 n).yld i H x H' → tt (some x :: σ) H' fun b H2 => if b = true then te (some x :: σ) H2 fun y H3 => N (ys ++ [y]) H3 else N ys H2) := by
  refine ⟨fun i m ys H => m = n - i ∧ i ≤ n ∧ Pv i ys H, ⟨n, by simp, Nat.zero_le _, h0⟩, ?_⟩
  rintro i m ys H ⟨rfl, hi, p⟩
  by_cases hlt : i < n
  · refine .inr ⟨hlt, small1000 (by have := hl i ys H p; omega), Pv (i + 1), fun ys' H' p' => ⟨n - (i + 1), by omega, rfl, hlt, p'⟩, fun x H' y => ?_⟩
    obtain ⟨e, y⟩ := y
    subst e y
    rw [Int.zero_add]
    exact hs i ys _ hlt p
  · have e : i = n := by omega
    subst e
    exact .inl ⟨Nat.le_refl _, hd ys H p⟩
theorem st_comp_range {ta : TE} {n : Nat} {tt : TT} {te : TE} {Q : VK} {σ : St} {H : Hp} (hn : n ≤ 1000) (e : ∀ P : V → Hp → Prop, P (.int (n : Int)) H → ta σ H P) (Pv : Nat → List V → Hp → Prop) (h0 : Pv 0 [] H) (hl : ∀ i ys H, Pv i ys H → ys.length ≤ i)
    (hs : ∀ i ys H, i < n → Pv i ys H → tt (some (.int (i : Int)) :: σ) H fun b H2 => if b = true then te (some (.int (i : Int)) :: σ) H2 fun y H3 => Pv (i + 1) (ys ++ [y]) H3 else Pv (i + 1) ys H2)
    (hd : ∀ ys H, Pv n ys H → ∀ p, H p = none → Q (.ref p) (upd H p (.lst ys))) : tComp (iRng1 (tCons ta tNil)) tt te σ H Q :=
  e _ ⟨(n : Int), rfl, by omega, by omega, comp_range Pv hn h0 hl hs hd⟩
theorem comp_tup {K : PySem.W.Frag} {a : Addr} {xs : List V} {tt : TT} {te : TE} {Q : VK} {σ : St} {H : Hp} (Pv : Nat → List V → Hp → Prop) (hn : xs.length ≤ 1000) (h0 : Pv 0 [] H) (hl : ∀ i ys H, Pv i ys H → ys.length ≤ i) (hk : ∀ i ys H, Pv i ys H → SqT K H a xs)
    (hs : ∀ i x ys H, xs[i]? = some x → Pv i ys H → tt (some x :: σ) H fun b H2 => if b = true then te (some x :: σ) H2 fun y H3 => Pv (i + 1) (ys ++ [y]) H3 else Pv (i + 1) ys H2)
    (hd : ∀ ys H, Pv xs.length ys H → ∀ p, H p = none → Q (.ref p) (upd H p (.lst ys))) :
    ∃ W : Nat → Nat → List V → Hp → Prop, (∃ m, W 0 m [] H) ∧ ∀ i m ys H, W i m ys H → ((Itt K a).stop i H ∧ ∀ p, H p = none → Q (.ref p) (upd H p (.lst ys))) ∨
      ((Itt K a).go i H ∧ ys.length < sizeLine ∧ ∃ N : List V → Hp → Prop, (∀ ys' H', N ys' H' → ∃ m', m' < m ∧ W (i + 1) m' ys' H') ∧
        ∀ x H', (Itt K a).yld i H x H' → tt (some x :: σ) H' fun b H2 => if b = true then te (some x :: σ) H2 fun y H3 => N (ys ++ [y]) H3 else N ys H2) := by
  refine ⟨fun i m ys H => m = xs.length - i ∧ i ≤ xs.length ∧ Pv i ys H, ⟨xs.length, by simp, Nat.zero_le _, h0⟩, ?_⟩
  rintro i m ys H ⟨rfl, hi, p⟩
  by_cases hlt : i < xs.length
  · refine .inr ⟨⟨xs, xs[i], hk i ys H p, by simp [hlt]⟩, small1000 (by have := hl i ys H p; omega), Pv (i + 1), fun ys' H' p' => ⟨xs.length - (i + 1), by omega, rfl, hlt, p'⟩, fun x H' y => ?_⟩
    obtain ⟨e, y⟩ := y
    subst e
    exact hs i x ys _ (y xs (hk i ys _ p)) p
  · have e : i = xs.length := by omega
    subst e
    exact .inl ⟨⟨xs, hk _ ys H p, Nat.le_refl _⟩, hd ys H p⟩
def rBitLen : V → List V → Hp → VK → Prop := fun x vs H Q => ∃ i, x = .int i ∧ vs = [] ∧ Q (.int (Builtin.Int.intBits i : Nat)) H
theorem mt_bit_length {X : Cx} : MtR X "int.bit_length" rBitLen := by
  intro pins s σ H x xs v us Q I rx rs h
  obtain ⟨i, rfl, rfl, q⟩ := h
  obtain ⟨t, rfl⟩ := rx
  cases rs
  exact call_int_bit_length ⟨.int _, H, I.tok _, ⟨_, rfl⟩, q⟩
end L2

namespace Tw
def plc (n : Nat) : Nat → List Nat
  | 0 => []
  | k + 1 => if n.testBit k then plc n k ++ [k] else plc n k
theorem plc_len (n : Nat) : ∀ k, (plc n k).length = cnt n.testBit k
  | 0 => rfl
  | k + 1 => by
    rw [plc, cnt]
    cases h : n.testBit k
    · simp [plc_len n k]
    · simp [plc_len n k]
theorem plc_lt (n : Nat) : ∀ k, ∀ x ∈ plc n k, x < k
  | 0, x, h => by simp [plc] at h
  | k + 1, x, h => by
    rw [plc] at h
    cases e : n.testBit k
    · rw [e] at h
      have := plc_lt n k x (by simpa using h)
      omega
    · rw [e] at h
      have h' : x ∈ plc n k ∨ x = k := by simpa using h
      rcases h' with z | z
      · have := plc_lt n k x z
        omega
      · omega
theorem plc_up (n : Nat) : ∀ k, (plc n k).Pairwise (· < ·)
  | 0 => List.Pairwise.nil
  | k + 1 => by
    rw [plc]
    cases e : n.testBit k
    · simpa using plc_up n k
    · simp only [if_true]
      rw [List.pairwise_append]
      refine ⟨plc_up n k, by simp, fun a ha b hb => ?_⟩
      have := plc_lt n k a ha
      have : b = k := by simpa using hb
      omega
def wor : List Nat → Nat
  | [] => 0
  | k :: r => 2 ^ k + wor r
theorem wor_app : ∀ a b : List Nat, wor (a ++ b) = wor a + wor b
  | [], b => by simp [wor]
  | x :: a, b => by rw [List.cons_append, wor, wor, wor_app a b]; omega
theorem plc_wor (n : Nat) : ∀ k, wor (plc n k) = n % 2 ^ k
  | 0 => by simp [plc, wor, Nat.mod_one]
  | k + 1 => by
    have h := plc_wor n k
    have e : n % 2 ^ (k + 1) = n % 2 ^ k + 2 ^ k * (n / 2 ^ k % 2) := by
      rw [Nat.pow_succ, Nat.mod_mul]
    have b : n / 2 ^ k % 2 = (n.testBit k).toNat := by
      rw [Nat.testBit_eq_decide_div_mod_eq]
      rcases Nat.mod_two_eq_zero_or_one (n / 2 ^ k) with h | h <;> rw [h] <;> rfl
    rw [plc, e, b]
    cases n.testBit k
    · simp [h]
    · simp [wor_app, wor, h]
theorem plc_all {n k : Nat} (h : n < 2 ^ k) : wor (plc n k) = n ∧ (plc n k).length = pop n := ⟨by rw [plc_wor, Nat.mod_eq_of_lt h], by rw [plc_len, pop_cnt k n h]⟩
theorem lt_bits (n : Nat) (h : n ≠ 0) : n < 2 ^ (n.log2 + 1) := Nat.lt_log2_self
theorem take_succ_get {α : Type} {xs : List α} {i : Nat} {x : α} (h : xs[i]? = some x) : xs.take (i + 1) = xs.take i ++ [x] := by
  rw [List.take_add_one, h]; rfl
theorem up_get {xs : List Nat} (h : xs.Pairwise (· < ·)) {i j : Nat} {a b : Nat} (ha : xs[i]? = some a) (hb : xs[j]? = some b) (hij : i < j) : a < b := by
  obtain ⟨h1, e1⟩ := List.getElem?_eq_some_iff.mp ha
  obtain ⟨h2, e2⟩ := List.getElem?_eq_some_iff.mp hb
  rw [← e1, ← e2]
  exact List.pairwise_iff_getElem.mp h i j h1 h2 hij
end Tw

set_option Elab.async false
set_option linter.all false
set_option maxRecDepth 100000
namespace L2
open PySem PySem.Spec PyProof.Rows
def rLen (K : PySem.W.Frag) : List V → Hp → VK → Prop := fun xs H Q => (∃ p ys, xs = [.ref p] ∧ (SqL K H p ys ∨ SqT K H p ys) ∧ Q (.int (ys.length : Nat)) H) ∨ ∃ z, xs = [.str z] ∧ z.length ≤ sizeLine ∧ Q (.int (z.length : Nat)) H
theorem call_lenQ {X : Cx} : CallR X (.builtin "len") (rLen X.K) := call_len_seq.or call_len_str
section
variable {K : PySem.W.Frag} {H : Hp} {Q : VK} {D : Ends} {σ : St} {te : TE} {tA : TA} {g : TG} {tb : TS} {v w y : V} {a b l : Addr} {i j : Int} {xs ys zs : List V} {n : Nat} {T : String} {r : V → List V → Hp → VK → Prop}
theorem st_for_list {tl : TE} (e : ∀ P : V → Hp → Prop, P (.ref a) H → tl σ H P) (s : SqL K H a xs) (Pv : Nat → St → Hp → Prop) (h0 : Pv 0 σ H) (hl : ∀ i σ H, i ≤ xs.length → Pv i σ H → SqL K H a xs)
    (hs : ∀ i x σ H, xs[i]? = some x → Pv i σ H → g x σ H fun σ2 H2 => tb { D with nx := Pv (i + 1), ct := Pv (i + 1), bk := D.nx } σ2 H2) (hd : ∀ σ H, Pv xs.length σ H → D.nx σ H) : tFor (iList K tl) g tb D σ H :=
  e _ ⟨a, rfl, ⟨xs, s⟩, for_list Pv h0 hl hs hd⟩
def sForL (K : PySem.W.Frag) (g : TG) (tb : TS) (D : Ends) (σ : St) : V → Hp → Prop := fun x H => ∃ a, x = .ref a ∧ (∃ xs, SqL K H a xs) ∧ ∃ W : Nat → Nat → St → Hp → Prop, (∃ m, W 0 m σ H) ∧ ∀ i m σ H, W i m σ H →
  ((Itl K a).stop i H ∧ D.nx σ H) ∨ ((Itl K a).go i H ∧ ∃ N : St → Hp → Prop, (∀ σ' H', N σ' H' → ∃ m', m' < m ∧ W (i + 1) m' σ' H') ∧ ∀ x H', (Itl K a).yld i H x H' → g x σ H' fun σ2 H2 => tb { D with nx := N, ct := N, bk := D.nx } σ2 H2)
theorem st_forE {tl : TE} (h : tl σ H (sForL K g tb D σ)) : tFor (iList K tl) g tb D σ H := h
theorem st_forAt (s : SqL K H a xs) (Pv : Nat → St → Hp → Prop) (h0 : Pv 0 σ H) (hl : ∀ i σ H, i ≤ xs.length → Pv i σ H → SqL K H a xs)
    (hs : ∀ i x σ H, xs[i]? = some x → Pv i σ H → g x σ H fun σ2 H2 => tb { D with nx := Pv (i + 1), ct := Pv (i + 1), bk := D.nx } σ2 H2) (hd : ∀ σ H, Pv xs.length σ H → D.nx σ H) : sForL K g tb D σ (.ref a) H :=
  ⟨a, rfl, ⟨xs, s⟩, for_list Pv h0 hl hs hd⟩
theorem st_for_tup {tl : TE} (e : ∀ P : V → Hp → Prop, P (.ref a) H → tl σ H P) (s : SqT K H a xs) (Pv : Nat → St → Hp → Prop) (h0 : Pv 0 σ H) (hl : ∀ i σ H, i ≤ xs.length → Pv i σ H → SqT K H a xs)
    (hs : ∀ i x σ H, xs[i]? = some x → Pv i σ H → g x σ H fun σ2 H2 => tb { D with nx := Pv (i + 1), ct := Pv (i + 1), bk := D.nx } σ2 H2) (hd : ∀ σ H, Pv xs.length σ H → D.nx σ H) : tFor (iTup K tl) g tb D σ H :=
  e _ ⟨a, rfl, ⟨xs, s⟩, for_tup Pv h0 hl hs hd⟩
theorem st_cat (h1 : H l = some (.lst xs)) (h2 : H b = some (.lst zs)) (hz : xs.length + zs.length ≤ 1000) (q : ∀ p, H p = none → Q (.ref p) (upd H p (.lst (xs ++ zs)))) : rCat (.ref l) (.ref b) H Q :=
  ⟨l, b, xs, zs, rfl, rfl, h1, h2, Nat.le_of_lt (small1000 hz), q⟩
theorem st_bm0 (h : te σ H fun x H1 => tyV K T x H1 ∧ r x [] H1 Q) : tBM0 K T r te σ H Q := h
theorem st_bm (h : te σ H fun x H1 => tyV K T x H1 ∧ tA σ H1 fun xs H2 => r x xs H2 Q) : tBM K T r te tA σ H Q := h
theorem st_tyI {P : Prop} (h : P) : tyV K "int" (.int i) H ∧ P := ⟨rfl, h⟩
theorem st_tyS {x : Str} {P : Prop} (h : P) : tyV K "str" (.str x) H ∧ P := ⟨rfl, h⟩
theorem st_tyL {P : Prop} (s : SqL K H a xs) (h : P) : tyV K "list" (.ref a) H ∧ P := ⟨.inl ⟨rfl, xs, s⟩, h⟩
theorem st_bitlen (h : Q (.int (Builtin.Int.intBits i : Nat)) H) : rBitLen (.int i) [] H Q := ⟨i, rfl, rfl, h⟩
theorem st_append (h : H l = some (.lst xs)) (hz : xs.length ≤ 1000) (q : Q .non (upd H l (.lst (xs ++ [y])))) : rAppend (.ref l) [y] H Q := ⟨l, xs, y, rfl, rfl, h, small1000 hz, q⟩
theorem st_lenL (s : SqL K H a xs) (h : Q (.int (xs.length : Nat)) H) : rLen K [.ref a] H Q := .inl ⟨a, xs, rfl, .inl s, h⟩
theorem st_lenT (s : SqT K H a xs) (h : Q (.int (xs.length : Nat)) H) : rLen K [.ref a] H Q := .inl ⟨a, xs, rfl, .inr s, h⟩
theorem st_lenS {z : Str} (s : z.length ≤ 1000) (h : Q (.int (z.length : Nat)) H) : rLen K [.str z] H Q := .inr ⟨z, rfl, Nat.le_of_lt (small1000 s), h⟩
end
theorem Same.upd_of {H H1 : Hp} {p : Addr} {o o' : HO} (h : H p = none) (s : Same (upd H p o) H1) : Same H (upd H1 p o') := fun b u q => by
  have hb : b ≠ p := ne_of_none q h
  rw [upd_ne hb]
  exact s b u (by rw [upd_ne hb]; exact q)
theorem kit_NoneType_int {K : PySem.W.Frag} : PySem.W.kitOne K (.type "NoneType") (.type "int") = some false := by kernel_rfl
theorem kit_NoneType_bool {K : PySem.W.Frag} : PySem.W.kitOne K (.type "NoneType") (.type "bool") = some false := by kernel_rfl
theorem kit_NoneType_str {K : PySem.W.Frag} : PySem.W.kitOne K (.type "NoneType") (.type "str") = some false := by kernel_rfl
theorem kit_NoneType_tuple {K : PySem.W.Frag} : PySem.W.kitOne K (.type "NoneType") (.type "tuple") = some false := by kernel_rfl
theorem kit_NoneType_list {K : PySem.W.Frag} : PySem.W.kitOne K (.type "NoneType") (.type "list") = some false := by kernel_rfl
theorem kit_NoneType_dict {K : PySem.W.Frag} : PySem.W.kitOne K (.type "NoneType") (.type "dict") = some false := by kernel_rfl
theorem kit_bool_int {K : PySem.W.Frag} : PySem.W.kitOne K (.type "bool") (.type "int") = some true := by kernel_rfl
theorem kit_bool_bool {K : PySem.W.Frag} : PySem.W.kitOne K (.type "bool") (.type "bool") = some true := by kernel_rfl
theorem kit_bool_str {K : PySem.W.Frag} : PySem.W.kitOne K (.type "bool") (.type "str") = some false := by kernel_rfl
theorem kit_bool_tuple {K : PySem.W.Frag} : PySem.W.kitOne K (.type "bool") (.type "tuple") = some false := by kernel_rfl
theorem kit_bool_list {K : PySem.W.Frag} : PySem.W.kitOne K (.type "bool") (.type "list") = some false := by kernel_rfl
theorem kit_bool_dict {K : PySem.W.Frag} : PySem.W.kitOne K (.type "bool") (.type "dict") = some false := by kernel_rfl
theorem kit_int_int {K : PySem.W.Frag} : PySem.W.kitOne K (.type "int") (.type "int") = some true := by kernel_rfl
theorem kit_int_bool {K : PySem.W.Frag} : PySem.W.kitOne K (.type "int") (.type "bool") = some false := by kernel_rfl
theorem kit_int_str {K : PySem.W.Frag} : PySem.W.kitOne K (.type "int") (.type "str") = some false := by kernel_rfl
theorem kit_int_tuple {K : PySem.W.Frag} : PySem.W.kitOne K (.type "int") (.type "tuple") = some false := by kernel_rfl
theorem kit_int_list {K : PySem.W.Frag} : PySem.W.kitOne K (.type "int") (.type "list") = some false := by kernel_rfl
theorem kit_int_dict {K : PySem.W.Frag} : PySem.W.kitOne K (.type "int") (.type "dict") = some false := by kernel_rfl
theorem kit_str_int {K : PySem.W.Frag} : PySem.W.kitOne K (.type "str") (.type "int") = some false := by kernel_rfl
theorem kit_str_bool {K : PySem.W.Frag} : PySem.W.kitOne K (.type "str") (.type "bool") = some false := by kernel_rfl
theorem kit_str_str {K : PySem.W.Frag} : PySem.W.kitOne K (.type "str") (.type "str") = some true := by kernel_rfl
theorem kit_str_tuple {K : PySem.W.Frag} : PySem.W.kitOne K (.type "str") (.type "tuple") = some false := by kernel_rfl
theorem kit_str_list {K : PySem.W.Frag} : PySem.W.kitOne K (.type "str") (.type "list") = some false := by kernel_rfl
theorem kit_str_dict {K : PySem.W.Frag} : PySem.W.kitOne K (.type "str") (.type "dict") = some false := by kernel_rfl
theorem kit_list_int {K : PySem.W.Frag} : PySem.W.kitOne K (.type "list") (.type "int") = some false := by kernel_rfl
theorem kit_list_bool {K : PySem.W.Frag} : PySem.W.kitOne K (.type "list") (.type "bool") = some false := by kernel_rfl
theorem kit_list_str {K : PySem.W.Frag} : PySem.W.kitOne K (.type "list") (.type "str") = some false := by kernel_rfl
theorem kit_list_tuple {K : PySem.W.Frag} : PySem.W.kitOne K (.type "list") (.type "tuple") = some false := by kernel_rfl
theorem kit_list_list {K : PySem.W.Frag} : PySem.W.kitOne K (.type "list") (.type "list") = some true := by kernel_rfl
theorem kit_list_dict {K : PySem.W.Frag} : PySem.W.kitOne K (.type "list") (.type "dict") = some false := by kernel_rfl
theorem kit_tuple_int {K : PySem.W.Frag} : PySem.W.kitOne K (.type "tuple") (.type "int") = some false := by kernel_rfl
theorem kit_tuple_bool {K : PySem.W.Frag} : PySem.W.kitOne K (.type "tuple") (.type "bool") = some false := by kernel_rfl
theorem kit_tuple_str {K : PySem.W.Frag} : PySem.W.kitOne K (.type "tuple") (.type "str") = some false := by kernel_rfl
theorem kit_tuple_tuple {K : PySem.W.Frag} : PySem.W.kitOne K (.type "tuple") (.type "tuple") = some true := by kernel_rfl
theorem kit_tuple_list {K : PySem.W.Frag} : PySem.W.kitOne K (.type "tuple") (.type "list") = some false := by kernel_rfl
theorem kit_tuple_dict {K : PySem.W.Frag} : PySem.W.kitOne K (.type "tuple") (.type "dict") = some false := by kernel_rfl
theorem kit_dict_int {K : PySem.W.Frag} : PySem.W.kitOne K (.type "dict") (.type "int") = some false := by kernel_rfl
theorem kit_dict_bool {K : PySem.W.Frag} : PySem.W.kitOne K (.type "dict") (.type "bool") = some false := by kernel_rfl
theorem kit_dict_str {K : PySem.W.Frag} : PySem.W.kitOne K (.type "dict") (.type "str") = some false := by kernel_rfl
theorem kit_dict_tuple {K : PySem.W.Frag} : PySem.W.kitOne K (.type "dict") (.type "tuple") = some false := by kernel_rfl
theorem kit_dict_list {K : PySem.W.Frag} : PySem.W.kitOne K (.type "dict") (.type "list") = some false := by kernel_rfl
theorem kit_dict_dict {K : PySem.W.Frag} : PySem.W.kitOne K (.type "dict") (.type "dict") = some true := by kernel_rfl
theorem bits_lt (n : Nat) : n < 2 ^ (Builtin.Int.intBits (n : Int)) := by
  unfold Builtin.Int.intBits
  by_cases h : n = 0
  · subst h; decide
  · have e : ((n : Int) == 0) = false := by
      rw [beq_eq_false_iff_ne]; omega
    rw [e]
    simp only [Bool.false_eq_true, if_false, Int.natAbs_natCast]
    exact Nat.lt_log2_self
theorem bits_le {n k : Nat} (h : n < 2 ^ k) : Builtin.Int.intBits (n : Int) ≤ k := by
  unfold Builtin.Int.intBits
  by_cases hn : n = 0
  · subst hn; simp
  · have e : ((n : Int) == 0) = false := by
      rw [beq_eq_false_iff_ne]; omega
    rw [e]
    simp only [Bool.false_eq_true, if_false, Int.natAbs_natCast]
    exact (Nat.log2_lt hn).mpr h
end L2

set_option Elab.async false
set_option linter.all false
set_option maxRecDepth 100000
namespace L2
open PySem PySem.Spec PyProof.Rows
abbrev bmVE : List Value := [.type "ValueError", .type "Exception", .type "BaseException", .type "object"]
structure ExcK (K : PySem.W.Frag) (C : Addr) : Prop where
  exc : PySem.W.excIn K C bmVE "ValueError.__new__" = true
  ga : PySem.W.findIn K (.ref C) "__getattribute__" = some (some (.builtin "BaseException.__getattribute__"))
  gt : PySem.W.findIn K (.ref C) "__getattr__" = some none
  ca : PySem.W.findIn K (.ref C) "__class__" = some (some (.builtin "object.__class__"))
  cg : PySem.W.specialIn K (.builtin "object.__class__") "__get__" = some (some (.builtin "getset_descriptor.__get__"))
  tk : PySem.W.takesIn K (.builtin "object.__class__") = some true
  mo : PySem.W.mroIn K C (.type "object") = some true
  mb : PySem.W.mroIn K C (.type "BaseException") = some true
structure ExcC (K : PySem.W.Frag) (mg : Str → Option Value) (x : Str) (C : Addr) : Prop where
  at_ : mg x = some (.ref C)
  k : ExcK K C
theorem ExcK.obj {K : PySem.W.Frag} {C : Addr} {h : Heap} (c : ExcK K C) (X : K.In h) : ∃ bm N nm q bs hdct sn sub ab col dd k0 k1 k2 k3 k5 mN, h.get? C = some (excClassObj nm q C N bs bm hdct sn sub ab col dd k0 k1 k2 k3 k5 "ValueError.__new__") ∧ h.Ns N mN ∧ mN "__init__" = none ∧ OwnTail h bmVE bm := by
  have q := c.exc
  unfold PySem.W.excIn at q
  split at q
  · rename_i dd cd sl ho
    split at q
    · rename_i C' bm k0 k1 k2 k3 n k5 hm hs
      simp only [Bool.and_eq_true, beq_iff_eq, Bool.not_eq_true'] at q
      obtain ⟨⟨⟨⟨⟨rfl, rfl⟩, hdel⟩, ht⟩, hok⟩, hni⟩ := q
      obtain ⟨nm, bs, mro, ns, qn, hd, sn, sub, ab, col, del⟩ := cd
      dsimp only at hm hdel hok hni
      subst hm hdel
      have hsl : sl = #[k0, k1, k2, k3, some (.builtin "ValueError.__new__"), k5] := by
        obtain ⟨l⟩ := sl
        simp only at hs
        rw [hs]
      subst hsl
      exact ⟨bm, ns, nm, qn, bs, hd, sn, sub, ab, col, dd, k0, k1, k2, k3, k5, _, X _ _ ho, .of_isNs (PySem.W.isNs_of_in X hok), PySem.W.nsMap_none_of_in X hok hni, PySem.W.tail_of_in X ht⟩
    · cases q
  · cases q
theorem ObjOk.there {P : Program} {w : World} {H : Hp} {h : Heap} {b : Addr} {u : HO} (k : ObjOk P w H h b u) : ∃ o, h.get? b = some o := by
  revert k
  cases u with
  | lst xs => rintro ⟨_, its, n, _, z⟩; exact ⟨_, z⟩
  | tup xs => rintro ⟨_, its, _, o, z, _⟩; exact ⟨_, z⟩
  | dK kvs => rintro ⟨_, _, vs, _, o, es, ep, z, _⟩; exact ⟨_, z⟩
  | dT kvs => rintro ⟨_, _, vs, _, o, es, ep, z, _⟩; exact ⟨_, z⟩
  | set S n => rintro ⟨o, es, ep, t, z, _⟩; exact ⟨_, z⟩
  | ins C dx fs => rintro ⟨_, _, _, z, _⟩; exact ⟨_, z⟩
  | own y => rintro ⟨o, z⟩; exact ⟨_, z⟩
  | xd fs => rintro ⟨mA, ⟨od, es, ep, z, _⟩, _⟩; exact ⟨_, z⟩
  | rng lo hi => rintro ⟨t, u, v, z⟩; exact ⟨_, z⟩
  | frz ob u => rintro ⟨z, _⟩; exact ⟨_, z⟩
  | tbl ps => intro z; exact ⟨_, z⟩
  | met f y => intro z; exact ⟨_, z⟩
  | ext φ => rintro ⟨_, ⟨o, z⟩, _⟩; exact ⟨_, z⟩
structure Flown (P : Program) (w : World) (outer : List Env) (H : Hp) (s : Shared) (E : XK) (ea : Addr) (cls : Value) (H' : Hp) (B : Heap) (s' : Shared) : Prop where
  os : s'.os = s.os
  bare : AllBare s'.gens
  un : Un (frs outer) [] H H' s.heap s'.heap
  hok : HOk P w H' s'.heap
  fly : ∃ a0, Heap.FlyingW B outer ea cls a0 s'.heap
  old : ∀ b o, s.heap.get? b = some o → b ∉ frs outer → ∃ o', B.get? b = some o' ∧ (H b = none → o' = o)
  trk : ∀ b u o, H' b = some u → s'.heap.get? b = some o → B.get? b = some o
  want : E cls none H'
def CXE (P : Program) (w : World) : CXT := fun outer H s E e s' => ∃ (ea : Addr) (cls : Value) (H' : Hp) (B : Heap), e = .ref ea ∧ Flown P w outer H s E ea cls H' B s'
theorem CXE.imp {P : Program} {w : World} {outer : List Env} {H : Hp} {s : Shared} {E E' : XK} {e : Value} {s' : Shared} (h : CXE P w outer H s E e s') (k : ∀ c d H, E c d H → E' c d H) : CXE P w outer H s E' e s' := by
  obtain ⟨ea, cls, H', B, r, F⟩ := h
  exact ⟨ea, cls, H', B, r, F.os, F.bare, F.un, F.hok, F.fly, F.old, F.trk, k _ _ _ F.want⟩
section
variable {P : Program} {w : World} {X : Cx} {pins : List (Addr × Obj)} {σ : St} {H H' : Hp} {s s' : Shared} {E : XK} {ea : Addr} {cls : Value} {B : Heap} {outer : List Env}
theorem Flown.some_of (F : Flown P w outer H s E ea cls H' B s') {b : Addr} {u : HO} (e : H' b = some u) : ∃ o, s'.heap.get? b = some o := (F.hok b u e).there
theorem Flown.free (F : Flown P w outer H s E ea cls H' B s') : H' ea = none := by
  cases q : H' ea with
  | none => rfl
  | some u =>
    obtain ⟨o, e⟩ := F.some_of q
    have h1 := F.trk _ _ _ q e
    obtain ⟨a0, _, h2, _⟩ := F.fly
    rw [h2] at h1; cases h1
theorem Flown.hokTo (F : Flown P w outer H s E ea cls H' B s') {h' : Heap} (k : B.StaysIn h') : HOk P w H' h' := fun b u e => by
  refine (F.hok b u e).stay (fun c v hc q => ?_) (fun _ q => q) fun _ _ q => q
  rcases hc with r | r
  · subst r; exact k _ _ (F.trk _ _ _ e q)
  · exact k _ _ (F.trk _ _ _ r q)
theorem Flown.inv (F : Flown X.prog X.w X.stack H s E ea cls H' B s') (I : Inv X pins σ H s) {h' : Heap} {t' : Nat} (k : B.StaysIn h') (up : s'.heap.UpToSlots h') : Inv X pins σ H' { s' with heap := h', toks := t' } := by
  obtain ⟨a0, _, _, fr, _⟩ := F.fly
  refine I.call' (s' := { s' with heap := h', toks := t' }) (ch := []) F.os ⟨fun b o e n hb _ => ?_, fun b o e n hb _ => ?_, fun b o e n _ => F.un.free b o e n (by simp), fun b o e _ => ?_, F.un.tups, F.un.frzs, F.un.tbls⟩ (F.hokTo k) F.bare (fun _ z => nomatch z)
  · obtain ⟨o', q, z⟩ := F.old b o e hb
    rw [z n] at q
    exact k _ _ q
  · obtain ⟨sl, q⟩ := F.un.slot b o e n hb (by simp)
    obtain ⟨_, o2, q2, d2⟩ := fr.mem hb
    rw [q] at q2; cases q2
    obtain ⟨sl', q'⟩ := up b _ q d2
    exact ⟨sl', q'⟩
  · by_cases hb : b ∈ frs X.stack
    · obtain ⟨_, o2, q2, d2⟩ := fr.mem hb
      obtain ⟨sl', q'⟩ := up b _ q2 d2
      exact ⟨_, q'⟩
    · obtain ⟨o', q, _⟩ := F.old b o e hb
      exact ⟨o', k _ _ q⟩
end
theorem passE {P : Program} {w : World} {K : PySem.W.Frag} {mg : Str → Option Value} {base : Heap} {N : List Str} {qual : Str} {scope : Scope} {f : Addr} {cd : Value} {A : Around} {outer : List Env} {s : Shared} {H : Hp} {E : XK} :
    Passes (CXE P w) (cxOf (CXE P w) P w K mg base N qual scope f cd A outer s H E) E := by
  intro pins σ H1 s1 e s' I h
  obtain ⟨ea, cls, H', B, rfl, F⟩ := h
  have F' : Flown P w (envOfC qual scope s.heap.objs.size f cd :: outer) H1 s1 E ea cls H' B s' := F
  obtain ⟨a0, fl⟩ := F'.fly
  have hfr := I.ok.frames
  show wpAny _ _ (leaving _ _) _ _ _
  refine wpAny_leaves_onW (outer := outer) hfr rfl fl fun h' fl' up => ?_
  have frs2 : ∀ b, b ∈ frs (envOfC qual scope s.heap.objs.size f cd :: outer) → b = s.heap.objs.size ∨ b ∈ frs outer := fun b hb => by
    obtain ⟨env, he, hf⟩ := List.mem_filterMap.mp hb
    rcases List.mem_cons.mp he with rfl | he
    · exact .inl (Option.some.inj hf).symm
    · exact .inr (List.mem_filterMap.mpr ⟨env, he, hf⟩)
  have notin : ∀ b o, s.heap.get? b = some o → b ∉ frs outer → b ∉ frs (envOfC qual scope s.heap.objs.size f cd :: outer) := fun b o e hb z => by
    rcases frs2 b z with r | r
    · have := Heap.lt_size e
      rw [r] at this
      exact Nat.lt_irrefl _ this
    · exact hb r
  have base0 : Un (frs outer) [] H H1 s.heap s1.heap := I.base
  obtain ⟨_, _, frm, _⟩ := id fl
  have frm' : s'.heap.FunFrames B outer := frm.2.2
  refine ⟨ea, cls, H', B, rfl, F'.os.trans I.os, F'.bare, ⟨fun b o e n hb _ => ?_, fun b o e n hb _ => ?_, fun b o e n _ => ?_, fun b o e _ => ?_, fun b xs e => F'.un.tups b xs (base0.tups b xs e), fun b o u e => F'.un.frzs b o u (base0.frzs b o u e), fun b ps e => ?_⟩, F'.hokTo fl'.1, ⟨a0, fl'⟩, fun b o e hb => ?_, fun b u o e q => ?_, F'.want⟩
  · obtain ⟨o', q, z⟩ := F'.old b o (base0.keep b o e n hb (by simp)) (notin b o e hb)
    rw [z (base0.free b o e n (by simp))] at q
    exact fl'.1 _ _ q
  · obtain ⟨sl, q⟩ := base0.slot b o e n hb (by simp)
    obtain ⟨sl2, q2⟩ := F'.un.any (b := b) q (base0.free b o e n (by simp)) (by simp)
    obtain ⟨_, o3, q3, d3⟩ := frm'.mem hb
    rw [q2] at q3; cases q3
    obtain ⟨sl', q'⟩ := up b _ q2 d3
    exact ⟨sl', q'⟩
  · obtain ⟨o1, q1⟩ := base0.there b o e (by simp)
    exact F'.un.free b o1 q1 (base0.free b o e n (by simp)) (by simp)
  · obtain ⟨o1, q1⟩ := base0.there b o e (by simp)
    by_cases hb : b ∈ frs outer
    · obtain ⟨_, o3, q3, d3⟩ := frm'.mem hb
      obtain ⟨sl', q'⟩ := up b _ q3 d3
      exact ⟨_, q'⟩
    · obtain ⟨o', q, _⟩ := F'.old b o1 q1 (notin b o e hb)
      exact ⟨o', fl'.1 _ _ q⟩
  · obtain ⟨m1, e1⟩ := base0.tbls b ps e
    obtain ⟨m2, e2⟩ := F'.un.tbls b _ e1
    exact ⟨m1 ++ m2, by rw [e2, Array.append_assoc]⟩
  · obtain ⟨o1, q1⟩ := base0.there b o e (by simp)
    obtain ⟨o', q, z⟩ := F'.old b o1 q1 (notin b o e hb)
    refine ⟨o', q, fun n => ?_⟩
    have q1' := base0.keep b o e n hb (by simp)
    rw [q1'] at q1; cases q1
    exact z (base0.free b o e n (by simp))
  · obtain ⟨o1, q1⟩ := F'.some_of e
    have q2 := F'.trk b u o1 e q1
    have q3 := fl'.1 _ _ q2
    rw [q3] at q; cases q
    exact q2
def Raises (X : Cx) (C : Addr) (E : XK) : Prop := ∀ (pins : List (Addr × Obj)) (σ : St) (H : Hp) (s : Shared) (h' : Heap) (e : Addr) (args : List Value), Inv X pins σ H s → Heap.MadeExcOf s.heap h' e (.ref C) args → E (.ref C) none H → X.xe (.ref e) { s with heap := h' }
theorem raisesE {P : Program} {w : World} {K : PySem.W.Frag} {mg : Str → Option Value} {base : Heap} {N : List Str} {qual : Str} {scope : Scope} {f C : Addr} {cd : Value} {A : Around} {outer : List Env} {s : Shared} {H : Hp} {E : XK} :
    Raises (cxOf (CXE P w) P w K mg base N qual scope f cd A outer s H E) C E := by
  intro pins σ H1 s1 h1 e args I hx hE
  have hfr := I.ok.frames
  have st := I.stack
  show wpAny _ _ (leaving _ _) _ _ _
  have hin : ∀ env ∈ (envOfC qual scope s.heap.objs.size f cd :: outer), ∀ b, env.frame = some b → b ∈ frs (envOfC qual scope s.heap.objs.size f cd :: outer) := fun env he b hb => List.mem_filterMap.mpr ⟨env, he, hb⟩
  have hid : ∀ {b o}, s1.heap.get? b = some o → b ∉ frs (envOfC qual scope s.heap.objs.size f cd :: outer) → (PySem.W.hideAll s1.heap (frs (envOfC qual scope s.heap.objs.size f cd :: outer))).get? b = some o := fun q nm => PySem.W.hideAll_get _ q nm
  refine wpAny_leaves_madeW (base := PySem.W.hideAll s1.heap (frs (envOfC qual scope s.heap.objs.size f cd :: outer))) (h := s1.heap) (outer := outer) hfr rfl (fun b o q => PySem.W.of_hideAll _ q) (PySem.W.funFrames_hide st hin) hx fun h' t fl _ _ up => ?_
  have base0 : Un (frs outer) [] H H1 s.heap s1.heap := I.base
  have notin : ∀ b o, s.heap.get? b = some o → b ∉ frs outer → b ∉ frs (envOfC qual scope s.heap.objs.size f cd :: outer) := fun b o e hb z => by
    obtain ⟨env, he, hf⟩ := List.mem_filterMap.mp z
    rcases List.mem_cons.mp he with rfl | he
    · have h1 := Heap.lt_size e
      have z2 : s.heap.objs.size = b := Option.some.inj hf
      rw [← z2] at h1
      exact Nat.lt_irrefl _ h1
    · exact hb (List.mem_filterMap.mpr ⟨env, he, hf⟩)
  have trkd : ∀ b u, H1 b = some u → b ∉ frs (envOfC qual scope s.heap.objs.size f cd :: outer) := fun b u e z => by
    rw [I.stkFree b z] at e; cases e
  obtain ⟨_, _, frm, _⟩ := id fl
  refine ⟨e, .ref C, H1, _, rfl, I.os, I.bare, ⟨fun b o e n hb _ => ?_, fun b o e n hb _ => ?_, fun b o e n _ => base0.free b o e n (by simp), fun b o e _ => ?_, base0.tups, base0.frzs, base0.tbls⟩, fun b u e => ?_, ⟨_, fl⟩, fun b o e hb => ?_, fun b u o e q => ?_, hE⟩
  · exact fl.1 _ _ (hid (base0.keep b o e n hb (by simp)) (notin b o e hb))
  · obtain ⟨sl, q⟩ := base0.slot b o e n hb (by simp)
    obtain ⟨_, o3, q3, d3⟩ := st.2.2.mem hb
    rw [q] at q3; cases q3
    obtain ⟨sl', q'⟩ := up b _ (hx.keeps _ _ q) d3
    exact ⟨sl', q'⟩
  · obtain ⟨o1, q1⟩ := base0.there b o e (by simp)
    by_cases hb : b ∈ frs outer
    · obtain ⟨_, o3, q3, d3⟩ := frm.mem hb
      exact ⟨_, q3⟩
    · exact ⟨o1, fl.1 _ _ (hid q1 (notin b o e hb))⟩
  · refine (I.hok b u e).stay (fun c v hc q => ?_) (fun _ q => q) fun _ _ q => q
    rcases hc with r | r
    · subst r; exact fl.1 _ _ (hid q (trkd _ _ e))
    · exact fl.1 _ _ (hid q (trkd _ _ r))
  · obtain ⟨o1, q1⟩ := base0.there b o e (by simp)
    refine ⟨o1, hid q1 (notin b o e hb), fun n => ?_⟩
    have q2 := base0.keep b o e n hb (by simp)
    rw [q1] at q2; cases q2; rfl
  · obtain ⟨o1, q1⟩ := (I.hok b u e).there
    have q2 := hid q1 (trkd _ _ e)
    have q3 := fl.1 _ _ q2
    rw [q3] at q; cases q
    exact q2

section
variable {X : Cx} {x : Str} {C : Addr} {E : XK} {np cpos pos : Pos} {e : Expr} {es : List Expr} {t : TA}
def tRaise (C : Addr) (E : XK) (t : TA) : TS := fun _ σ H => t σ H fun vs H1 => vs.length ≤ 1000 ∧ E (.ref C) none H1
theorem ps_raise (c : ExcC X.K X.mg x C) (hr : Raises X C E) (ha : PA X (e :: es) t) (hc : X.calm = true) (hg : Gl X x := by rfl) (hd : (x == ("__debug__" : Str)) = false := by decide)
    (he : starEach (e :: es) X.env = (false, eval e X.env) :: starEach es X.env := by rfl) (hpl : (backTo cpos (starEach es X.env)).any (·.1) = false := by rfl) :
    PS X (.Raise (some (.Call (.Name x np) (e :: es) [] cpos)) none pos) (tRaise C E t) := by
  intro pins s σ H D I h
  obtain ⟨bm, N, nm, q, bs, hdct, sn, sub, ab, col, dd, k0, k1, k2, k3, k5, mN, hC, hN, hni, T⟩ := c.k.obj I.ok.mod.kin
  refine wpAny_Raise_call_subT (C := C) (nm := nm) (q := q) (N := N) (bs := bs) (bm := bm) (hdct := hdct) (sn := sn) (sub := sub) (ab := ab) (col := col) (dd := dd) (k0 := k0) (k1 := k1) (k2 := k2) (k3 := k3) (k5 := k5)
    PySem.F.excBase_ValueError (mN := mN) (T.hasType PySem.F.excBase_ValueError.hasBase) (I.ok.hd hc) (by rw [he]; show (false || (backTo cpos (starEach es X.env)).any (·.1)) = false; rw [hpl]; rfl) hni (ld_glob I hg c.at_ ⟨rfl, ?_⟩ hd)
  have h' := ha cpos pins s σ H _ I h
  rw [he] at h' ⊢
  refine Calls.evalArgs_plain (thn h' fun us s2 ⟨vs, H2, I2, r2, z, q2⟩ => ?_)
  have hl : us.length ≤ sizeLine := by rw [← r2.length]; exact Nat.le_of_lt (small1000 z)
  exact ⟨rfl, hl, I2.bk _ _ hC, hN.keeps I2.bk, T.keeps I2.bk, fun h' e hm => hr pins σ H2 s2 h' e us I2 hm q2⟩
end
def XIn (X : Cx) (pins : List (Addr × Obj)) (σ : St) (E : XK) (e : Value) (s' : Shared) : Prop := ∃ H1 s1, Inv X pins σ H1 s1 ∧ CXE X.prog X.w X.stack H1 s1 E e s'
def PEx (X : Cx) (e : Expr) (t : XK → TE) : Prop :=
  ∀ (pins : List (Addr × Obj)) (s : Shared) (σ : St) (H : Hp) (Q : VK) (E : XK), Inv X pins σ H s → t E σ H Q → wpAny (model X.prog X.w) X.A (eval e X.env) (EP X pins σ Q) (XIn X pins σ E) s
def PSx (X : Cx) (st : Stmt) (t : XK → TS) : Prop :=
  ∀ (pins : List (Addr × Obj)) (s : Shared) (σ : St) (H : Hp) (D : Ends) (E : XK), Inv X pins σ H s → t E D σ H → wpAny (model X.prog X.w) X.A (exec st X.env) (SP X pins D) (XIn X pins σ E) s
section
variable {X : Cx} {k j : Nat} {ps : List Str} {sp : Sp} {x : Str} {p pos : Pos} {e : Expr} {es : List Expr} {t : TA}
theorem pex_fn (c : Cal X.prog X.w X.K X.mg X.base (CXE X.prog X.w) k x ps sp) (hr : Room j X.A) (ha : PA X.nox (e :: es) t) (hk : k ≤ j := by decide) (hg : Gl X x := by rfl) (hdb : (x == ("__debug__" : Str)) = false := by decide)
    (he : starEach (e :: es) X.env = (false, eval e X.env) :: starEach es X.env := by rfl) (hpl : (backTo pos (starEach es X.env)).any (·.1) = false := by rfl) :
    PEx X (.Call (.Name x p) (e :: es) [] pos) (fun E => tCall sp [] E t) := by
  intro pins s σ H Q E I h
  obtain ⟨f, fd, F, hb, kp, hm⟩ := c.ex
  refine wpAny_Call_Name_kw (ld_glob I hg hm ?_ hdb)
  refine PySem.W.callWith_K (h₀ := X.base) I.ok.mod.kin kp (wpAny_mono (ha pos pins s σ H _ (I.wish _) h) (fun us s1 ⟨vs, H1, I1, r, q⟩ => ⟨I1.kIn, ?_⟩) fun _ _ z => z.elim) he hpl
  have I1' : Inv X pins σ H1 s1 := I1.unwish
  have r2 : Vals (vs ++ []) (us ++ []) := r.append .nil
  have hl : (us ++ []).length = ps.length := by rw [← r2.length]; exact F.len _ _ _ _ q
  refine wpAny_call (codeAny_mono (F.run X.A X.stack s1 H1 ⟨us, []⟩ (us ++ []) (vs ++ []) Q E (hr.mono hk) I1'.env0 (hb s1 us I1'.kIn hl) r2 q) fun r s' hq => ?_)
  cases r with
  | error e => exact ⟨H1, s1, I1', hq⟩
  | ok fl =>
    cases fl with
    | ret u => exact I1'.after hq
    | next => exact False.elim hq
    | brk => exact False.elim hq
    | cont => exact False.elim hq
theorem psx_expr {e : Expr} {te : XK → TE} (he : PEx X e te) (hs : swapsWith e none pos.line X.env = pure false := by rfl) : PSx X (.Expr e pos) (fun E => tDrop (te E)) := by
  intro pins s σ H D E I h
  exact wpAny_Expr_any (thn (he pins s σ H _ E I h) fun v s1 ⟨x, H1, I1, r1, q1⟩ => ⟨σ, H1, I1, q1⟩) I.quiet hs
theorem psx_set {i : Nat} {y : Str} {e : Expr} {te : XK → TE} {pos' : Pos} (hN : X.N.Nodup) (hi : X.N[i]? = some y) (hx : Loc X.env.scope y) (he : PEx X e te) (hs : swapsWith e (some (.Name y pos')) pos.line X.env = pure false := by rfl)
    (hf : X.fn y = true ∨ X.env.scope.names.lookup y = some .local := by first | exact .inl rfl | exact .inr rfl | assumption) : PSx X (.Assign [.Name y pos'] e pos) (fun E => tAsg (te E) (gName i)) := by
  intro pins s σ H D E I h
  refine wpAny_Assign_Name (thn (he pins s σ H _ E I h) fun v s1 ⟨z, H1, I1, r1, q1⟩ => ?_) hs
  exact store_ok I1 hN hi hx r1 (fun s2 I2 => ⟨_, H1, I2, q1⟩) hf
end
def ExcAt (a C : Addr) (h : Heap) : Prop := ∃ o, h.get? a = some o ∧ o.cls = .ref C
def xO (a C : Addr) : HO := .ext (ExcAt a C)
def Cx.suite (X : Cx) (ea : Addr) : Cx := { X with A := X.A.mark (some (.ref ea)), calm := false, xe := fun _ _ => False }
section
variable {X : Cx} {pins : List (Addr × Obj)} {σ : St} {H : Hp} {s : Shared}
theorem Cx.Ok.suite (ok : X.Ok) (ea : Addr) : (X.suite ea).Ok :=
  ⟨ok.mod, ok.kind, ok.glob, ok.blt, ok.above, ok.inj, ok.has, ok.cab, (fun z => by cases z), ok.frames, ok.stk, ok.exf, ok.bs, ok.bsz, ok.noex, ok.exfs, ok.funs, ok.frf⟩
theorem Cx.Ok.unsuite {ea : Addr} (ok : (X.suite ea).Ok) (hd : X.calm = true → X.A.handled = none) : X.Ok :=
  ⟨ok.mod, ok.kind, ok.glob, ok.blt, ok.above, ok.inj, ok.has, ok.cab, hd, ok.frames, ok.stk, ok.exf, ok.bs, ok.bsz, ok.noex, ok.exfs, ok.funs, ok.frf⟩
theorem Inv.suite (I : Inv X pins σ H s) (ea : Addr) : Inv (X.suite ea) pins σ H s := ⟨I.ok.suite ea, I.os, I.bare, I.base, I.loc, I.cell, I.free, I.freeC, I.pin, I.hok, I.len⟩
theorem Inv.unsuite {ea : Addr} (I : Inv (X.suite ea) pins σ H s) (hd : X.calm = true → X.A.handled = none) : Inv X pins σ H s := ⟨I.ok.unsuite hd, I.os, I.bare, I.base, I.loc, I.cell, I.free, I.freeC, I.pin, I.hok, I.len⟩
theorem gone_ok {M : Model} {A : Around} {E : Value → Shared → Prop} {i : Nat} {n : Str} {pos : Pos} {Q : Unit → Shared → Prop} (I : Inv X pins σ H s) (hN : X.N.Nodup) (hi : X.N[i]? = some n) (hk : X.env.scope.names.lookup n = some .local)
    (h : ∀ s', Inv X pins (σ.set i none) H s' → Q () s') : wpAny M A (do bindName X.env n .none; unbindBehindTheSuite X.env n pos) Q E s := by
  obtain ⟨m, hn, hl⟩ := id I.loc
  have hcls : (X.env.scope.kind == .class || (X.env.scope.kind == .module && X.env.locals != X.env.globals)) = false := by rw [I.ok.kind]; rfl
  have hiσ : i < σ.length := by rw [I.len]; exact (List.getElem?_eq_some_iff.mp hi).1
  have cne := I.cne
  have tracked : ∀ {a : Addr} {h' : Heap}, (∃ o, s.heap.get? a = some o ∧ H a = none) → Heap.SameBut a s.heap h' → HOk X.prog X.w H h' := fun {a h'} ha hs b ob e => by
    obtain ⟨_, _, hfree⟩ := ha
    refine (I.hok b ob e).stay (fun c w' hc q => (hs.2 c ?_).trans q) (fun _ q => q) fun _ _ q => q
    rintro rfl
    rcases hc with rfl | hc
    · rw [hfree] at e; cases e
    · rw [hfree] at hc; cases hc
  refine wpAny_nameGoes_keeps hk hn hcls fun h' v hn' hs => ?_
  obtain ⟨oL, _, _, hoL, _⟩ := id hn
  refine h _ ⟨I.ok, I.os, I.bare, ⟨fun b o e n hb hx => ?_, fun b o e n hb hx => ?_, I.base.free, fun b o e hx => ?_, I.base.tups, I.base.frzs, I.base.tbls⟩, ⟨_, hn', fun j y v' e1 e2 e3 => ?_⟩, fun y c e => ?_, I.free, I.freeC, fun p hp => ?_, tracked ⟨oL, hoL, I.free⟩ hs, by simpa using I.len⟩
  · exact (hs.2 b (Nat.ne_of_lt (Nat.lt_of_lt_of_le (Heap.lt_size e) I.ok.above))).trans (I.base.keep b o e n hb hx)
  · obtain ⟨sl, e1⟩ := I.base.slot b o e n hb hx
    exact ⟨sl, (hs.2 b (Nat.ne_of_lt (Nat.lt_of_lt_of_le (Heap.lt_size e) I.ok.above))).trans e1⟩
  · obtain ⟨o', e1⟩ := I.base.there b o e hx
    exact ⟨o', (hs.2 b (Nat.ne_of_lt (Nat.lt_of_lt_of_le (Heap.lt_size e) I.ok.above))).trans e1⟩
  · by_cases hj : j = i
    · subst hj
      rw [List.getElem?_set_self hiσ] at e2
      cases e2
    · rw [List.getElem?_set_ne (Ne.symm hj)] at e2
      obtain ⟨u', r', q⟩ := hl j y v' e1 e2 e3
      refine ⟨u', r', ?_⟩
      rcases q with ⟨k, e⟩ | ⟨k, c, e, z⟩
      · refine .inl ⟨k, ?_⟩
        have : y ≠ n := fun e => hj (nodup_ix hN e1 (e ▸ hi))
        simp [this, e]
      · exact .inr ⟨k, c, e, z.sameBut hs (cne y c e)⟩
  · obtain ⟨w', z⟩ := I.cell y c e
    exact ⟨w', z.sameBut hs (cne y c e)⟩
  · obtain ⟨e, n, ne, nf, d⟩ := I.pin p hp
    exact ⟨(hs.2 p.1 ne).trans e, n, ne, nf, d⟩
end
def tTry (K : PySem.W.Frag) (W : Addr) (i : Nat) (t : XK → TS) (ts : TS) : TS := fun D σ H =>
  t (fun cls _ H2 => ∃ C, cls = .ref C ∧ PySem.W.exmOne K (.ref C) (.ref W) = some true ∧ ∀ ea, H2 ea = none →
    ts ⟨fun σ2 H3 => D.nx (σ2.set i none) H3, D.rt, fun σ2 H3 => D.bk (σ2.set i none) H3, fun σ2 H3 => D.ct (σ2.set i none) H3⟩ (σ.set i (some (.ref ea))) (upd H2 ea (xO ea C))) D σ H
section
variable {X : Cx} {st b₀ : Stmt} {suite : List Stmt} {W : Addr} {i : Nat} {y n : Str} {np hpos pos : Pos} {t : XK → TS} {ts : TS}
theorem ps_try (hW : X.mg y = some (.ref W)) (hN : X.N.Nodup) (hi : X.N[i]? = some n) (hl : X.env.scope.names.lookup n = some .local) (hc : X.calm = true) (hst : X.stack = X.env :: X.outer) (hfr : X.env.frame = some X.env.locals)
    (hb : PSx X st t) (hz : ∀ ea, PSs (X.suite ea) (b₀ :: suite) ts) (hg : Gl X y := by rfl) (hd : (y == ("__debug__" : Str)) = false := by decide) :
    PS X (.Try [st] [.ExceptHandler (some (.Name y np)) (some n) (b₀ :: suite) hpos] [] [] pos) (tTry X.K W i t ts) := by
  intro pins s σ H D I h
  have hh := I.ok.hd
  refine wpAny_Try_except (wpAny_execs_cons (wpAny_mono (hb pins s σ H D _ I h) (fun f s1 q => ?_) fun e s1 q => ?_))
  · cases f with
    | next => exact wpAny_execs_nil (wpAny_execs_nil q)
    | ret v => exact q
    | brk => exact q
    | cont => exact q
  · obtain ⟨H1, s2, I2, ea, cls, H', B, rfl, F⟩ := q
    obtain ⟨C, rfl, hm, hts⟩ := F.want
    obtain ⟨a0, fl⟩ := F.fly
    have fl0 : Heap.FlyingW B (X.env :: X.outer) ea (.ref C) a0 s1.heap := hst ▸ fl
    have hfrm : X.A.frames = some (X.env :: X.outer) := hst ▸ I.ok.frames
    refine wpAny_looks_onW hfrm hfr fl0 fun h4 held4 up4 => ?_
    refine wpAny_landsW held4 fun h5 fl5 up5' => ?_
    have up5 := up4.trans up5'
    have I5 : Inv X pins σ H' { s1 with heap := h5 } := F.inv (t' := s1.toks) I2 fl5.1 up5
    have I5' := I5.suite ea
    obtain ⟨ob, hob, hobc⟩ := fl5.there
    refine wpAny_handleBy_cons (codeAny_handlers_test (ld_glob (X := X.suite ea) I5' hg hW ?_ hd)) (by intro z; cases z)
    have ty : ∀ M : Model, PySem.W.Looks M h5 (typeOf (.ref ea)) (.ref C) := fun M => hobc ▸ (PySem.W.Looks.ld hob).andThen .now
    refine PySem.W.Looks.here (PySem.W.exm_one (K := X.K) I5.kIn (ty _) hm) ?_
    refine codeAny_handlers_suite_as ?_
    refine lands_againW fl5 fun h6 fl6 up6 => ?_
    have I6 : Inv X pins σ H' { s1 with heap := h6 } := F.inv (t' := s1.toks) I2 fl6.1 (up5.trans up6)
    obtain ⟨ob6, hob6, hobc6⟩ := fl6.there
    have nea := F.free
    have hea6 : h6.get? ea = some ob6 := hob6
    obtain ⟨_, oe, vs, T, oT, tt, he6, _, hd6, _⟩ := (show _ ∧ _ from ⟨trivial, fl6.2.2.2⟩)
    have neB : B.get? ea = none := fl6.2.1
    have notf : ea ∉ frs X.stack := fun z => by
      obtain ⟨_, o2, q2, d2⟩ := fl6.2.2.1.mem (hst ▸ z)
      rw [he6] at q2; cases q2
      exact d2 _ hd6
    have olds : ∀ b o, s2.heap.get? b = some o → b ≠ ea := fun b o e z => by
      subst z
      obtain ⟨o', q, _⟩ := F.old b o e notf
      rw [neB] at q; cases q
    have I7 : Inv X pins σ (upd H' ea (xO ea C)) { s1 with heap := h6 } := by
      have fr6 : h6.FunFrames B X.stack := hst ▸ fl6.2.2.1
      have up := up5.trans up6
      refine I2.call' (s' := { s1 with heap := h6 }) (ch := []) F.os ⟨fun b o e n hb _ => ?_, fun b o e n hb _ => ?_, fun b o e n _ => ?_, fun b o e _ => ?_, fun b xs e => ?_, fun b o u e => ?_, fun b ps e => ?_⟩ (fun b u e => ?_) F.bare (fun _ z => nomatch z)
      · obtain ⟨o', q, z⟩ := F.old b o e hb
        rw [z n] at q
        exact fl6.1 _ _ q
      · obtain ⟨sl, q⟩ := F.un.slot b o e n hb (by simp)
        obtain ⟨_, o2, q2, d2⟩ := (hst ▸ fl.2.2.1 : s1.heap.FunFrames B X.stack).mem hb
        rw [q] at q2; cases q2
        obtain ⟨sl', q'⟩ := up b _ q d2
        exact ⟨sl', q'⟩
      · rw [upd_ne (olds b o e)]; exact F.un.free b o e n (by simp)
      · by_cases hb : b ∈ frs X.stack
        · obtain ⟨_, o2, q2, d2⟩ := fr6.mem hb
          exact ⟨_, q2⟩
        · obtain ⟨o', q, _⟩ := F.old b o e hb
          exact ⟨o', fl6.1 _ _ q⟩
      · have q := F.un.tups b xs e
        rw [upd_ne (ne_of_none q nea)]; exact q
      · have q := F.un.frzs b o u e
        rw [upd_ne (ne_of_none q nea)]; exact q
      · obtain ⟨more, q⟩ := F.un.tbls b ps e
        exact ⟨more, by rw [upd_ne (ne_of_none q nea)]; exact q⟩
      · by_cases hb : b = ea
        · subst hb
          rw [upd_same] at e
          cases e
          exact ⟨⟨ob6, hob6, hobc6⟩, ⟨ob6, hob6⟩, fun h1 h2 ⟨o, z, zc⟩ k => ⟨o, k o z, zc⟩⟩
        · rw [upd_ne hb] at e
          refine (F.hok b u e).stay (fun c v hc' q => ?_) (fun c q => by rw [upd_ne (ne_of_none q nea)]; exact q) fun c xs q => by rw [upd_ne (ne_of_none q nea)]; exact q
          rcases hc' with r | r
          · subst r; exact fl6.1 _ _ (F.trk _ _ _ e q)
          · exact fl6.1 _ _ (F.trk _ _ _ r q)
    refine store_ok (X := X.suite ea) (I7.suite ea) hN hi (.inl hl) (v := .ref ea) rfl (fun s8 I8 => ?_) (.inr hl)
    refine wpAny_mono (hz ea pins s8 _ _ _ I8 (hts ea nea)) (fun f s9 q9 => ?_) fun _ _ z => z.elim
    have fin : ∀ {Q : Unit → Shared → Prop} {σ9 : St} {H9 : Hp}, Inv (X.suite ea) pins σ9 H9 s9 → (∀ s', Inv X pins (σ9.set i none) H9 s' → Q () s') → wpAny (model X.prog X.w) X.A (do bindName X.env n .none; unbindBehindTheSuite X.env n hpos) Q X.xe s9 :=
      fun I9 k => gone_ok (I9.unsuite hh) hN hi hl k
    cases f with
    | next =>
      obtain ⟨σ9, H9, I9, q⟩ := q9
      exact fin I9 fun s' I' => ⟨_, _, I', q⟩
    | brk =>
      obtain ⟨σ9, H9, I9, q⟩ := q9
      exact fin I9 fun s' I' => ⟨_, _, I', q⟩
    | cont =>
      obtain ⟨σ9, H9, I9, q⟩ := q9
      exact fin I9 fun s' I' => ⟨_, _, I', q⟩
    | ret v =>
      obtain ⟨x9, σ9, H9, I9, r9, q⟩ := q9
      exact fin I9 fun s' I' => ⟨x9, _, _, I', r9, q⟩
end

theorem passE0 {P : Program} {w : World} {X : Cx} : Passes (CXE P w) X E0 := fun _ _ _ _ _ _ _ ⟨_, _, _, _, _, F⟩ => F.want.elim
theorem Fun.okE {P : Program} {w : World} {K : PySem.W.Frag} {mg : Str → Option Value} {base : Heap} {x qual : Str} {st : Stmt} {f : Addr} {fd : FuncData} {N ps : List Str} {k : Nat} {sp : Sp} (F : Fun K x qual st f fd) (S : FnScope N ps (defScope st)) (len : ∀ vs H Q E, sp vs H Q E → vs.length = ps.length)
    (hbody : ∀ (cdv : Value) (A : Around) (outer : List Env) (s : Shared) (H : Hp) (vs : List V) (Q : VK) (E : XK), Room k (A.deeper (envOfC qual (defScope st) s.heap.objs.size f cdv)) → sp vs H Q E →
      ∃ t, PSs (cxOf (CXE P w) P w K mg base N qual (defScope st) f cdv A outer s H E) (defBody st) t ∧ t { nx := fun _ H' => Q .non H', rt := Q } (start N vs) H) : FnOk P w K mg base (CXE P w) (k + 1) f fd ps sp := by
  obtain ⟨oc, od, kV, doc, pm, an, cdv, ct, osl, rfl, lk, hcd⟩ := F.ex
  exact fn_of lk hcd S len fun A outer s H vs Q E hr hsp => hbody cdv A outer s H vs Q E hr hsp
end L2

set_option Elab.async false
set_option linter.all false
set_option maxRecDepth 100000
namespace L2
open PySem PySem.Spec PyProof.Rows PySem.Builtin PySem.Builtin.ObjectAttr PySem.Builtin.Getset_descriptor
section
variable {prog : Program} {w : World} {A : Around} {E : Value → Shared → Prop} {s : Shared} {K : PySem.W.Frag} {a C : Addr}
theorem ExcAt.ty {M : Model} {h : Heap} (p : ExcAt a C h) : PySem.W.Looks M h (typeOf (.ref a)) (.ref C) := by
  obtain ⟨o, ho, hc⟩ := p
  exact hc ▸ (PySem.W.Looks.ld ho).andThen .now
theorem exc_find {M : Model} {h : Heap} (c : ExcK K C) (X : K.In h) : PySem.W.Looks M h (find (.ref a) (.ref C) "__class__") (.bind (.builtin "getset_descriptor.__get__") (.builtin "object.__class__")) := by
  have L1 := PySem.W.looks_findIn (M := M) X c.ca
  have L2 : PySem.W.Looks M h (getOf (some (.builtin "object.__class__"))) (some (.builtin "getset_descriptor.__get__")) := PySem.W.looks_specialIn X c.cg
  have L3 := PySem.W.looks_takesIn (M := M) X c.tk
  exact L1.andThen (L2.andThen ((show PySem.W.Looks M h (dataDescriptor? (some (.builtin "object.__class__")) (some (.builtin "getset_descriptor.__get__"))) (some (.builtin "getset_descriptor.__get__", .builtin "object.__class__")) from L3.andThen .now).andThen (PySem.W.Looks.tag .now)))
theorem exc_getcls {R : Result → Shared → Prop} {tp : Value} (X : K.In s.heap) (p : ExcAt a C s.heap) (hm : PySem.W.mroIn K C (.type "object") = some true)
    (h : R (.ok (.ret (.ref C))) s) : codeAny (model prog w) A (.call (.builtin "getset_descriptor.__get__") ⟨[.builtin "object.__class__", .ref a, tp], []⟩) R s := by
  obtain ⟨hh, g, dr, t, os⟩ := s
  have L0 := p.ty (M := model prog w)
  have L1 := PySem.W.looks_mroIn (M := model prog w) X hm
  refine codeAny_call_builtin PySem.W.KF.slot_gs.plain PySem.W.KF.entry_gs (PySem.W.KF.slot_gs.check _ _ _ _ _ _ _ _ PySem.W.KF.type_class (PySem.W.KF.args_gs _ _ _) ?_)
  unfold Builtin.«getset_descriptor.__get__» descrGet
  rw [PySem.W.dga_obj]
  refine wpAny_bind (wpAny_pure ?_)
  unfold descrGetter descrCheckInstance descrNameAndClass isInstance
  simp only [PySem.W.KF.owner_class]
  repeat lk
  refine ⟨Code.quiet_builtin _ (by decide +kernel), codeAny_builtin PySem.W.KF.entry_class ?_⟩
  unfold Builtin.«object.__class__» shownTypeOf
  repeat lk
  exact h
theorem exc_check {M : Model} {nameV : Value} {Q : Unit → Shared → Prop} (X : K.In s.heap) (p : ExcAt a C s.heap) (hm : PySem.W.mroIn K C (.type "BaseException") = some true) (hq : Q () s) :
    wpAny M A (checkBuiltinCall "BaseException.__getattribute__" ⟨[.ref a, nameV], []⟩) Q E s := by
  obtain ⟨hh, g, dr, t, os⟩ := s
  have hk : builtinKind "BaseException.__getattribute__" = some .slot := by decide +kernel
  have hsplit : splitId "BaseException.__getattribute__" = some ("BaseException", "__getattribute__") := by decide +kernel
  have L0 := p.ty (M := M)
  have L1 := PySem.W.looks_mroIn (M := M) X hm
  have LI : PySem.W.Looks M hh (isInstance (.ref a) (.type "BaseException")) true := L0.andThen L1
  have ha := PySem.F.args_bexc_ga (.ref a) nameV
  simp only [checkBuiltinCall, hk, hsplit]
  refine wpAny_bind (LI.at ?_)
  repeat lk
  exact hq
theorem exc_entry {tk : Tok} {Q : PySem.Fin → Shared → Prop} (c : ExcK K C) (X : K.In s.heap) (p : ExcAt a C s.heap) (h : Q (.done (.ret (.ref C))) s) :
    wpAny (model prog w) A (Builtin.«object.__getattribute__» ⟨[.ref a, .str "__class__" tk], []⟩) Q E s := by
  obtain ⟨hh, g, dr, t, os⟩ := s
  have L0 := p.ty (M := model prog w)
  have L1 := exc_find (M := model prog w) (a := a) c X
  unfold Builtin.«object.__getattribute__»
  repeat (first | with_reducible refine wpAny_call ?_ | lk)
  refine exc_getcls X p c.mo ?_
  dsimp only
  repeat lk
  exact h
theorem exc_class {Q : Option Value → Shared → Prop} (c : ExcK K C) (X : K.In s.heap) (p : ExcAt a C s.heap) (h : Q (some (.ref C)) { s with toks := s.toks + 1 }) : wpAny (model prog w) A (getAttr? (.ref a) "__class__") Q E s := by
  obtain ⟨hh, g, dr, t, os⟩ := s
  have L0 := p.ty (M := model prog w)
  have L1 := PySem.W.looks_findIn (M := model prog w) X c.ga
  have L2 := PySem.W.looks_findIn (M := model prog w) X c.gt
  unfold getAttr? getAttrBy? getAttrBy
  refine wpAny_bind (wpAny_mkText (wpAny_bind (wpAny_attempt (wpAny_holding (wpAny_bind (L0.at (wpAny_bind (L1.at ?_))))))))
  repeat (first | with_reducible refine wpAny_call ?_ | with_reducible refine wpAny_attempt ?_ | lk)
  refine codeAny_call_builtin PySem.F.attr_ValueError.ga.plain PySem.F.entry_bexc_ga (exc_check (s := ⟨hh, g, dr, t + 1, os⟩) X p c.mb ?_)
  refine exc_entry (s := ⟨hh, g, dr, t + 1, os⟩) c X p ?_
  dsimp only
  exact PySem.W.handed_on rfl (wpAny_pure h)
theorem exc_cls {M : Model} {h : Heap} (c : ExcK K C) (X : K.In h) : PySem.W.Looks M h (isType (.ref C)) true := by
  obtain ⟨bm, N, nm, q, bs, hdct, sn, sub, ab, col, dd, k0, k1, k2, k3, k5, mN, hC, _⟩ := c.obj X
  intro A' Q' E' s' k q
  unfold isType loadHead
  exact wpAny_bind (wpAny_loadPart (k _ _ hC) (wpAny_pure q))
theorem exc_ne {h : Heap} (c : ExcK K C) (X : K.In h) {tp : Addr} {dd : Option Addr} {its : List Value} {n : Nat} {sl : Array (Option Value)} (htp : h.get? tp = some ⟨.type "tuple", dd, .seq its.toArray n, sl⟩) : (Value.ref C == .ref tp) = false := by
  obtain ⟨bm, N, nm, q, bs, hdct, sn, sub, ab, col, dd, k0, k1, k2, k3, k5, mN, hC, _⟩ := c.obj X
  refine Bool.eq_false_iff.mpr fun z => ?_
  have e : C = tp := Value.ref.inj (beq_iff_eq.mp z)
  subst e
  have z2 := congrArg Obj.data (Option.some.inj (hC.symm.trans htp))
  cases z2
theorem kitx_exc (c : ExcK K C) : PySem.W.KitX K (.ref a) (.ref C) (ExcAt a C) where
  ty := fun _ _ _ p => p.ty
  it := fun _ _ X _ => exc_cls c X
  ne := fun _ tp dd its n sl X htp => exc_ne c X htp
  ca := fun X p k => exc_class c X p k
end
section
variable {X : Cx}
def rIsX (K : PySem.W.Frag) (c : V) (cv : Value) : List V → Hp → VK → Prop := fun xs H Q => ∃ a C b, xs = [.ref a, c] ∧ H a = some (xO a C) ∧ ExcK K C ∧ PySem.W.kitOne K (.ref C) cv = some b ∧ Q (.bl b) H
theorem call_isX {c : V} {cv : Value} (hc : ∀ u, RelV c u → u = cv) : CallR X (.builtin "isinstance") (rIsX X.K c cv) := by
  intro pins s σ H xs us Q I r h
  obtain ⟨a, C, b, rfl, ha, ek, e, q⟩ := h
  obtain ⟨u, w', rfl, ru, rw'⟩ := Vals.two r
  cases hc w' rw'
  cases (show u = Value.ref a from ru)
  obtain ⟨p, _⟩ := (show ObjOk X.prog X.w H s.heap a (xO a C) from I.hok a _ ha)
  exact PySem.W.kia_one (kitx_exc ek) I.kIn p e (fun z => nomatch z) fun tk => ⟨.bl b, H, I.tok tk, rfl, q⟩
theorem pe_isXB {x : Str} {T : String} {p p2 pos : Pos} {e : Expr} {te : TE} (hg : Gl X "isinstance") (hm : X.mg "isinstance" = none) (he : PE X e te) (hmT : X.mg x = none) (hT : bootBuiltins x = some (.type T)) (hgT : Gl X x := by rfl) (hn : x ≠ "__name__" := by decide) (hd : (x == ("__debug__" : Str)) = false := by decide)
    (h1 : starEach [e, .Name x p2] X.env = (false, eval e X.env) :: starEach [.Name x p2] X.env := by rfl) (h2 : (backTo pos (starEach [.Name x p2] X.env)).any (·.1) = false := by rfl) :
    PE X (.Call (.Name "isinstance" p) [e, .Name x p2] [] pos) (tCB (rIsX X.K (.ty T) (.type T)) (tCons te (tCons (tC (.ty T)) tNil))) :=
  pe_callB (call_isX fun u hu => hu) hg hm boot_isinstance (pa_cons he (pa_cons (pe_bltn hgT hmT hT rfl hn hd) pa_nil) h1) (by decide) (by decide) h1 h2
theorem pe_isXO {x : Str} {C : Addr} {p p2 pos : Pos} {e : Expr} {te : TE} (hg : Gl X "isinstance") (hm : X.mg "isinstance" = none) (he : PE X e te) (hmC : X.mg x = some (.ref C)) (hgT : Gl X x := by rfl) (hd : (x == ("__debug__" : Str)) = false := by decide)
    (h1 : starEach [e, .Name x p2] X.env = (false, eval e X.env) :: starEach [.Name x p2] X.env := by rfl) (h2 : (backTo pos (starEach [.Name x p2] X.env)).any (·.1) = false := by rfl) :
    PE X (.Call (.Name "isinstance" p) [e, .Name x p2] [] pos) (tCB (rIsX X.K (.ref C) (.ref C)) (tCons te (tCons (tC (.ref C)) tNil))) :=
  pe_callB (call_isX fun u hu => hu) hg hm boot_isinstance (pa_cons he (pa_cons (pe_glob hgT hmC rfl hd) pa_nil) h1) (by decide) (by decide) h1 h2
theorem st_isX {K : PySem.W.Frag} {H : Hp} {Q : VK} {a C : Addr} {c : V} {cv : Value} {b : Bool} (h : H a = some (xO a C)) (k : ExcK K C) (e : PySem.W.kitOne K (.ref C) cv = some b) (q : Q (.bl b) H) : rIsX K c cv [.ref a, c] H Q := ⟨a, C, b, rfl, h, k, e, q⟩
theorem st_raise {D : Ends} {C : Addr} {E : XK} {t : TA} {σ : St} {H : Hp} (h : t σ H fun vs H1 => vs.length ≤ 1000 ∧ E (.ref C) none H1) : tRaise C E t D σ H := h
theorem st_try {D : Ends} {K : PySem.W.Frag} {W : Addr} {i : Nat} {t : XK → TS} {ts : TS} {σ : St} {H : Hp} (h : t (fun cls _ H2 => ∃ C, cls = .ref C ∧ PySem.W.exmOne K (.ref C) (.ref W) = some true ∧ ∀ ea, H2 ea = none →
    ts ⟨fun σ2 H3 => D.nx (σ2.set i none) H3, D.rt, fun σ2 H3 => D.bk (σ2.set i none) H3, fun σ2 H3 => D.ct (σ2.set i none) H3⟩ (σ.set i (some (.ref ea))) (upd H2 ea (xO ea C))) D σ H) : tTry K W i t ts D σ H := h
end
end L2

namespace Tw
theorem cnt_xor2 (p q : Nat → Bool) : ∀ k, (cnt (fun i => p i ^^ q i) k) % 2 = (cnt p k + cnt q k) % 2
  | 0 => rfl
  | k + 1 => by
    have h := cnt_xor2 p q k
    rw [cnt, cnt, cnt]
    cases p k <;> cases q k <;> simp <;> omega
theorem big2 (a b : Nat) : ∃ k, a < 2 ^ k ∧ b < 2 ^ k := ⟨a + b, by
    have := @Nat.lt_two_pow_self (a + b); omega, by
    have := @Nat.lt_two_pow_self (a + b); omega⟩
theorem pop_xor2 (a b : Nat) : pop (a ^^^ b) % 2 = (pop a + pop b) % 2 := by
  obtain ⟨k, ha, hb⟩ := big2 a b
  rw [pop_cnt k _ (xor_lt ha hb), pop_cnt k _ ha, pop_cnt k _ hb, ← cnt_xor2]
  congr 1
  exact cnt_congr fun i _ => by rw [Nat.testBit_xor]
theorem and_xor_d (a b c : Nat) : a &&& (b ^^^ c) = (a &&& b) ^^^ (a &&& c) := by
  apply Nat.eq_of_testBit_eq
  intro i
  simp only [Nat.testBit_and, Nat.testBit_xor]
  cases a.testBit i <;> cases b.testBit i <;> cases c.testBit i <;> rfl
theorem xor_and_d (a b c : Nat) : (a ^^^ b) &&& c = (a &&& c) ^^^ (b &&& c) := by
  rw [Nat.and_comm, and_xor_d, Nat.and_comm c a, Nat.and_comm c b]
theorem pop_both (x1 z1 x2 z2 : Nat) : pop ((x1 ^^^ x2) &&& (z1 ^^^ z2)) % 2 = (pop (x1 &&& z1) + pop (x2 &&& z2) + pop ((x1 &&& z2) ^^^ (z1 &&& x2))) % 2 := by
  have e : (x1 ^^^ x2) &&& (z1 ^^^ z2) = ((x1 &&& z1) ^^^ (x1 &&& z2)) ^^^ ((x2 &&& z1) ^^^ (x2 &&& z2)) := by
    rw [xor_and_d, and_xor_d, and_xor_d]
  have h1 := pop_xor2 ((x1 &&& z1) ^^^ (x1 &&& z2)) ((x2 &&& z1) ^^^ (x2 &&& z2))
  have h2 := pop_xor2 (x1 &&& z1) (x1 &&& z2)
  have h3 := pop_xor2 (x2 &&& z1) (x2 &&& z2)
  have h4 := pop_xor2 (x1 &&& z2) (z1 &&& x2)
  rw [Nat.and_comm z1 x2] at h4 ⊢
  rw [e]
  omega
theorem pop_meet (z1 z2 x1 b : Nat) : (pop (x1 &&& z2) + pop ((z1 ^^^ z2) &&& b)) % 2 = (pop (z1 &&& b) + pop (z2 &&& (b ^^^ x1))) % 2 := by
  have h1 := pop_xor2 (z1 &&& b) (z2 &&& b)
  have h2 := pop_xor2 (z2 &&& b) (z2 &&& x1)
  rw [← xor_and_d] at h1
  rw [← and_xor_d] at h2
  rw [Nat.and_comm x1 z2]
  omega
theorem quart_even {p1 p2 p3 c : Nat} {m : Int} (h : p3 % 2 = (p1 + p2 + c) % 2) (hc : c % 2 = 0) : (2 * m + (p1 : Int) + (p2 : Int) - (p3 : Int)) % 2 = 0 := by omega
theorem quart_half {q : Int} (h : q % 2 = 0) : 0 ≤ q % 4 / 2 ∧ q % 4 / 2 ≤ 1 ∧ (2 * (q % 4 / 2) - q) % 4 = 0 := by omega
end Tw

set_option Elab.async false
set_option linter.all false
set_option maxRecDepth 100000
namespace Tw
theorem bI_nat (b : Bool) : bI b = ((b.toNat : Nat) : Int) := by cases b <;> rfl
theorem bit0_and (z : Bool) (n k : Nat) : (z.toNat &&& (n / 2 ^ k)).testBit 0 = (z && n.testBit k) := by
  rw [Nat.testBit_and, Nat.testBit_div_two_pow, Nat.zero_add]
  cases z <;> simp
theorem mod_bit (x k : Nat) : x % 2 ^ (k + 1) = (x % 2 ^ k) ^^^ ((x.testBit k).toNat * 2 ^ k) := by
  apply Nat.eq_of_testBit_eq
  intro i
  rw [Nat.testBit_xor, Nat.testBit_mod_two_pow, Nat.testBit_mod_two_pow]
  have e : ((x.testBit k).toNat * 2 ^ k).testBit i = (decide (i = k) && x.testBit k) := by
    cases x.testBit k
    · simp
    · simp only [Bool.toNat_true, Nat.one_mul, Nat.testBit_two_pow, Bool.and_true]
      by_cases h : k = i
      · simp [h]
      · simp [h, Ne.symm h]
  rw [e]
  by_cases h1 : i = k
  · subst h1; simp
  · by_cases h2 : i < k
    · have : i < k + 1 := by omega
      simp [h1, h2, this]
    · have : ¬ i < k + 1 := by omega
      simp [h1, h2, this]
theorem xor_bit (b x k : Nat) : (b ^^^ (x % 2 ^ k)).testBit k = b.testBit k := by
  rw [Nat.testBit_xor, Nat.testBit_mod_two_pow]; simp
end Tw
namespace L2
open PySem PySem.Spec PyProof.Rows
section
variable {K : PySem.W.Frag} {H : Hp} {Q : VK} {σ : St} {ta tb tc : TE} {r r' : R2} {n k : Nat} {i : Int} {p q : Bool} {a : Addr}
theorem st_chain (h : ta σ H fun x H1 => tb σ H1 fun y H2 => r x y H2 fun z H3 => ∃ k, z = .bl k ∧ (if k = true then tc σ H3 fun w' H4 => r' y w' H4 Q else Q (.bl false) H3)) : tChain r r' ta tb tc σ H Q := h
theorem st_and1 (h : Q (.int (Tw.bI (n.testBit 0))) H) : rI0 (fun i j => .int (Builtin.bitAnd i j)) (.int (n : Int)) (.int 1) H Q := st_i0 (by
  have e := bitAnd_bit n 0
  rw [Int.pow_zero, Int.ediv_one] at e
  rw [e]; exact h)
theorem st_andS (h : Q (.int ((p.toNat &&& (n / 2 ^ k) : Nat) : Int)) H) : rI0 (fun i j => .int (Builtin.bitAnd i j)) (.int (Tw.bI p)) (.int ((n : Int) / 2 ^ k)) H Q := st_i0 (by
  have e : ((n : Int) / 2 ^ k) = ((n / 2 ^ k : Nat) : Int) := by push_cast; rfl
  rw [Tw.bI_nat, e, bitAnd_nat]; exact h)
theorem st_andB (h : Q (.int (Tw.bI (p && q))) H) : rI0 (fun i j => .int (Builtin.bitAnd i j)) (.int (Tw.bI p)) (.int (Tw.bI q)) H Q := st_i0 (by
  rw [Tw.bI_nat, Tw.bI_nat, bitAnd_nat]
  have e : ((p.toNat &&& q.toNat : Nat) : Int) = Tw.bI (p && q) := by cases p <;> cases q <;> rfl
  rw [e]; exact h)
theorem st_shlB (c : k ≤ 1000) (h : Q (.int ((p.toNat * 2 ^ k : Nat) : Int)) H) : rI CPow (fun i j => .int (i * 2 ^ j.toNat)) (.int (Tw.bI p)) (.int (k : Int)) H Q := st_i (cpow_n c (by cases p <;> decide)) (by
  rw [Int.toNat_natCast, Tw.bI_nat, Tw.pow2_cast, ← Int.natCast_mul]; exact h)
theorem st_in01 {m : Nat} (s : SqT K H a [.int 0, .int 1]) (hm : m ≤ 1) (h : Q (.bl true) H) : rIn K false (.int (m : Int)) (.ref a) H Q := ⟨a, [.int 0, .int 1], rfl, .inr s, rfl, rfl, by
  have e : inV (.int (m : Int)) [.int 0, .int 1] = true := by
    have : m = 0 ∨ m = 1 := by omega
    rcases this with rfl | rfl <;> decide
  rw [e]; exact h⟩
theorem st_shrB {j : Int} (h : Q (.int (Tw.bI (n.testBit k))) H) : rI0 (fun i j => .int (Builtin.bitAnd i j)) (.int ((n : Int) / 2 ^ k)) (.int 1) H Q := st_bit h
end
section
variable {X : Cx} {K : PySem.W.Frag}
theorem ix_tupK (h : X.K = K) : IxR X (rIxT K) := h ▸ ix_tup
theorem ix_listK (h : X.K = K) : IxR X (rIxL K) := h ▸ ix_list
theorem call_lenK (h : X.K = K) : CallR X (.builtin "len") (rLen K) := h ▸ call_lenQ
theorem op_inK (h : X.K = K) : OpR X (compareOp .In) (rIn K false) := h ▸ op_in_seq
theorem pe_isBK {x : Str} {T : String} {p p2 pos : Pos} {e : Expr} {te : TE} (h : X.K = K) (hg : Gl X "isinstance") (hm : X.mg "isinstance" = none) (he : PE X e te) (hmT : X.mg x = none) (hT : bootBuiltins x = some (.type T)) (hgT : Gl X x := by rfl) (hn : x ≠ "__name__" := by decide) (hd : (x == ("__debug__" : Str)) = false := by decide)
    (h1 : starEach [e, .Name x p2] X.env = (false, eval e X.env) :: starEach [.Name x p2] X.env := by rfl) (h2 : (backTo pos (starEach [.Name x p2] X.env)).any (·.1) = false := by rfl) :
    PE X (.Call (.Name "isinstance" p) [e, .Name x p2] [] pos) (tCB (rIsi K (.ty T) (.type T)) (tCons te (tCons (tC (.ty T)) tNil))) := h ▸ pe_isB hg hm he hmT hT hgT hn hd h1 h2
end
section
variable {X : Cx} {K : PySem.W.Frag}
theorem pe_isXBK {x : Str} {T : String} {p p2 pos : Pos} {e : Expr} {te : TE} (h : X.K = K) (hg : Gl X "isinstance") (hm : X.mg "isinstance" = none) (he : PE X e te) (hmT : X.mg x = none) (hT : bootBuiltins x = some (.type T)) (hgT : Gl X x := by rfl) (hn : x ≠ "__name__" := by decide) (hd : (x == ("__debug__" : Str)) = false := by decide)
    (h1 : starEach [e, .Name x p2] X.env = (false, eval e X.env) :: starEach [.Name x p2] X.env := by rfl) (h2 : (backTo pos (starEach [.Name x p2] X.env)).any (·.1) = false := by rfl) :
    PE X (.Call (.Name "isinstance" p) [e, .Name x p2] [] pos) (tCB (rIsX K (.ty T) (.type T)) (tCons te (tCons (tC (.ty T)) tNil))) := h ▸ pe_isXB hg hm he hmT hT hgT hn hd h1 h2
theorem pe_isXOK {x : Str} {C : Addr} {p p2 pos : Pos} {e : Expr} {te : TE} (h : X.K = K) (hg : Gl X "isinstance") (hm : X.mg "isinstance" = none) (he : PE X e te) (hmC : X.mg x = some (.ref C)) (hgT : Gl X x := by rfl) (hd : (x == ("__debug__" : Str)) = false := by decide)
    (h1 : starEach [e, .Name x p2] X.env = (false, eval e X.env) :: starEach [.Name x p2] X.env := by rfl) (h2 : (backTo pos (starEach [.Name x p2] X.env)).any (·.1) = false := by rfl) :
    PE X (.Call (.Name "isinstance" p) [e, .Name x p2] [] pos) (tCB (rIsX K (.ref C) (.ref C)) (tCons te (tCons (tC (.ref C)) tNil))) := h ▸ pe_isXO hg hm he hmC hgT hd h1 h2
end
theorem Same.updF {H H' : Hp} {p : Addr} {o : HO} (s : Same H H') (h : H p = none) : Same H (upd H' p o) := fun b u q => by
  rw [upd_ne (ne_of_none q h)]; exact s b u q
end L2

set_option Elab.async false
set_option linter.all false
set_option maxRecDepth 100000
namespace L2
open PySem PySem.Spec PyProof.Rows
theorem all_getD (bs : List Bool) : (List.range bs.length).all (fun i => bs.getD i false) = bs.all id := by
  rw [Bool.eq_iff_iff, List.all_eq_true, List.all_eq_true]
  constructor
  · intro h b hb
    obtain ⟨i, hi, e⟩ := List.getElem_of_mem hb
    have := h i (List.mem_range.mpr hi)
    rw [List.getD_eq_getElem?_getD, List.getElem?_eq_getElem hi, Option.getD_some, e] at this
    exact this
  · intro h i hi
    have hi' := List.mem_range.mp hi
    rw [List.getD_eq_getElem?_getD, List.getElem?_eq_getElem hi', Option.getD_some]
    exact h _ (List.getElem_mem hi')
section
variable {X : Cx}
def rAll (K : PySem.W.Frag) : List V → Hp → VK → Prop := fun xs H Q => ∃ (p : Addr) (bs : List Bool), xs = [.ref p] ∧ SqL K H p (bs.map V.bl) ∧ Q (.bl (bs.all id)) H
theorem call_allB (hc : X.calm = true) : CallR X (.builtin "all") (rAll X.K) := by
  intro pins s σ H xs us Q I r h
  obtain ⟨p, bs, rfl, hs, q⟩ := h
  obtain ⟨u, rfl, ru⟩ := Vals.one r
  cases (show u = Value.ref p from ru)
  obtain ⟨its, rv, pl, hz⟩ := I.list hs
  have hlen : its.length = bs.length := by rw [← rv.length, List.length_map]
  have hpl : p < s.heap.objs.size := by
    obtain ⟨o, n, e, _⟩ := pl
    exact Heap.lt_size e
  refine call_all_walk (wpAny_pyIter_list pl.isList ?_)
  refine ⟨s.heap.objs.size, [s.heap.objs.size, p], [s.heap.objs.size], its.toArray.size, _, _, fun i => bs.getD i false, rfl, Walks.list (A := X.A.in1) (I.ok.hd hc) s.heap.objs.size p (Nat.ne_of_lt hpl) its.toArray, ⟨⟨_, Heap.get?_push_size _ rfl, rfl, rfl⟩, ?_⟩, fun i v s' Q' E' hv hq => ?_, fun h' tk hk => ?_⟩
  · exact pl.isList.at fun o e => Heap.get?_push_of_some _ e
  · have hv' : its[i]? = some v := by simpa using hv
    have hi : i < bs.length := by
      rw [← hlen]; exact (List.getElem?_eq_some_iff.mp hv').1
    obtain ⟨u, e1, e2⟩ := rv.get (i := i) (x := .bl bs[i]) (by rw [List.getElem?_map, List.getElem?_eq_getElem hi]; rfl)
    rw [hv'] at e1; cases e1
    cases (show v = Value.bool bs[i] from e2)
    refine wpAny_truthy_bool ?_
    dsimp only at hq
    rw [List.getD_eq_getElem?_getD, List.getElem?_eq_getElem hi, Option.getD_some] at hq
    exact hq
  · have e : its.toArray.size = bs.length := by simpa using hlen
    rw [e, all_getD]
    refine ⟨.bl _, H, I.kept (t' := tk) (h' := h') fun b o eb => hk b o (fun z => ?_) (Heap.get?_push_of_some _ eb), rfl, q⟩
    have : b = s.heap.objs.size := by simpa using z
    exact Nat.lt_irrefl _ (this ▸ Heap.lt_size eb)
theorem Inv.bigD {pins : List (Addr × Obj)} {σ : St} {H : Hp} {s : Shared} (I : Inv X pins σ H s) : sysModules < s.heap.objs.size := by
  have h : mainGlobals < s.heap.objs.size := (I.mod.glob.keeps I.bk).lt
  exact Nat.lt_trans (by decide) h
def tDNew : TE := fun _ H Q => ∀ p, H p = none → Q (.ref p) (upd H p (.dK []))
theorem pe_dnew {pos : Pos} : PE X (.Dict [] [] pos) tDNew := fun pins s σ H Q I h =>
  wpAny_Dict_empty ⟨.ref s.heap.objs.size, _, I.laid (a := s.heap.objs.size) (o := .dK []) (t' := s.toks) (fun _ _ q => Heap.get?_push_of_some _ q) (Nat.le_refl _) ⟨Nat.zero_le _, beq_eq_false_iff_ne.mpr (Ne.symm (Nat.ne_of_lt I.bigD)), [], .nil, Heap.DictOf.new s.heap⟩, rfl, h _ (I.hok.fresh (Nat.le_refl _))⟩
def rLst (K : PySem.W.Frag) : List V → Hp → VK → Prop := fun xs H Q => ∃ p ys, xs = [.ref p] ∧ (SqL K H p ys ∨ SqT K H p ys) ∧ ∀ l, H l = none → Q (.ref l) (upd H l (.lst ys))
theorem call_listQ : CallR X (.type "list") (rLst X.K) := call_list_of
def rStrI : List V → Hp → VK → Prop := fun xs H Q => ∃ i, xs = [.int i] ∧ i.natAbs.log2 < 1920 ∧ Q (.str (toString i)) H
theorem call_strQ : CallR X (.type "str") rStrI := call_str_int
end
section
variable {K : PySem.W.Frag} {H : Hp} {Q : VK} {a : Addr} {xs : List V}
theorem st_all {bs : List Bool} (s : SqL K H a (bs.map V.bl)) (q : Q (.bl (bs.all id)) H) : rAll K [.ref a] H Q := ⟨a, bs, rfl, s, q⟩
theorem st_lstT (s : SqT K H a xs) (q : ∀ l, H l = none → Q (.ref l) (upd H l (.lst xs))) : rLst K [.ref a] H Q := ⟨a, xs, rfl, .inr s, q⟩
theorem st_yes {σ : St} {R : Bool → Hp → Prop} (h : R true H) : tYes σ H R := h
theorem st_comp_tup {tl : TE} {tt : TT} {te : TE} {σ : St} (e : ∀ P : V → Hp → Prop, P (.ref a) H → tl σ H P) (s : SqT K H a xs) (Pv : Nat → List V → Hp → Prop) (hn : xs.length ≤ 1000) (h0 : Pv 0 [] H) (hl : ∀ i ys H, Pv i ys H → ys.length ≤ i) (hk : ∀ i ys H, Pv i ys H → SqT K H a xs)
    (hs : ∀ i x ys H, xs[i]? = some x → Pv i ys H → tt (some x :: σ) H fun b H2 => if b = true then te (some x :: σ) H2 fun y H3 => Pv (i + 1) (ys ++ [y]) H3 else Pv (i + 1) ys H2)
    (hd : ∀ ys H, Pv xs.length ys H → ∀ p, H p = none → Q (.ref p) (upd H p (.lst ys))) : tComp (iTup K tl) tt te σ H Q :=
  e _ ⟨a, rfl, ⟨xs, s⟩, comp_tup Pv hn h0 hl hk hs hd⟩
theorem st_dnew {σ : St} (q : ∀ p, H p = none → Q (.ref p) (upd H p (.dK []))) : tDNew σ H Q := q
theorem st_strN {n : Nat} (h : n < 2 ^ 100) (q : ∀ x : Str, Q (.str x) H) : rStrI [.int (n : Int)] H Q := ⟨_, rfl, by
  rw [Int.natAbs_natCast]
  by_cases h0 : n = 0
  · subst h0; decide
  · have := (Nat.log2_lt h0).mpr h; omega, q _⟩
end
end L2

set_option Elab.async false
set_option linter.all false
set_option maxRecDepth 100000
namespace L2
open PySem PySem.Spec PyProof.Rows
theorem kv_get : ∀ {kvs : List (Key × V)} {vs : List (Key × Value)}, KV kvs vs → ∀ {i : Nat} {k : Key} {x : V}, kvs[i]? = some (k, x) → ∃ v, vs[i]? = some (k, v) ∧ RelV x v := by
  intro kvs vs r
  induction r with
  | nil => intro i k x h; simp at h
  | @cons p q ps qs h t ih =>
    intro i k x e
    cases i with
    | zero =>
      obtain ⟨h1, h2⟩ := h
      have e' : p = (k, x) := by simpa using e
      subst e'
      exact ⟨q.2, by rw [List.getElem?_cons_zero]; cases q; cases h1; rfl, h2⟩
    | succ i =>
      obtain ⟨v, e1, e2⟩ := ih (by simpa using e)
      exact ⟨v, by simpa using e1, e2⟩
theorem key_rel {P : Program} {w : World} {k : Key} {u : Value} (h : (mixKind P w).is k u = true) : RelV (kV k) u := by
  rcases keyIs_shape (show keyIs k u = true from h) with ⟨i, t, rfl, rfl⟩ | ⟨x, t, rfl, rfl⟩
  · exact ⟨t, rfl⟩
  · exact ⟨t, rfl⟩
section
variable {X : Cx} {pins : List (Addr × Obj)} {σ : St} {H : Hp} {s : Shared} {a : Addr} {kvs : List (Key × V)} {o : Obj}
theorem Inv.freeze (I : Inv X pins σ H s) (e : H a = some (.dK kvs)) (ho : s.heap.get? a = some o) : Inv X pins σ (upd H a (.frz o (.dK kvs))) s := by
  have x : ObjOk X.prog X.w H s.heap a (.dK kvs) := I.hok a _ e
  exact I.write (x := a) (e := a) (t' := s.toks) (h' := s.heap) (by rw [e]; exact True.intro) (.inl rfl) (fun b u _ q => q) ⟨o, ho⟩ ⟨ho, x⟩
theorem Inv.thaw (I : Inv X pins σ H s) (h0 : ∀ o u, X.H₀ a ≠ some (.frz o u)) (e : H a = some (.frz o (.dK kvs))) : Inv X pins σ (upd H a (.dK kvs)) s := by
  have na : ∀ {b : Addr}, H b = none → b ≠ a := fun {b} q z => by subst z; rw [q] at e; cases e
  have x : s.heap.get? a = some o ∧ ObjOk X.prog X.w H s.heap a (.dK kvs) := I.hok a _ e
  refine ⟨I.ok, I.os, I.bare, ⟨I.base.keep, I.base.slot, fun b ob q n hx => ?_, I.base.there, fun b xs q => ?_, fun b ob u q => ?_, fun b ps q => ?_⟩, I.loc, I.cell, ?_, fun y c q => ?_, fun p hp => ?_, fun b u q => ?_, I.len⟩
  · have := I.base.free b ob q n hx
    rw [upd_ne (na this)]; exact this
  · have h1 := I.base.tups b xs q
    have : b ≠ a := fun z => by subst z; rw [h1] at e; cases e
    rw [upd_ne this]; exact h1
  · have h1 := I.base.frzs b ob u q
    have : b ≠ a := fun z => by subst z; exact h0 _ _ q
    rw [upd_ne this]; exact h1
  · obtain ⟨more, h1⟩ := I.base.tbls b ps q
    have : b ≠ a := fun z => by subst z; rw [h1] at e; cases e
    exact ⟨more, by rw [upd_ne this]; exact h1⟩
  · rw [upd_ne (na I.free)]; exact I.free
  · rw [upd_ne (na (I.freeC y c q))]; exact I.freeC y c q
  · obtain ⟨h1, h2, h3⟩ := I.pin p hp
    exact ⟨h1, by rw [upd_ne (na h2)]; exact h2, h3⟩
  · by_cases hb : b = a
    · subst hb
      rw [upd_same] at q; cases q
      exact x.2
    · rw [upd_ne hb] at q
      exact (I.hok b u q).stay (fun c v _ r => r) (fun c r => by rw [upd_ne (fun z => by subst z; rw [r] at e; cases e)]; exact r) fun c xs r => by rw [upd_ne (fun z => by subst z; rw [r] at e; cases e)]; exact r
end
def Itd (a : Addr) (o : Obj) (kvs : List (Key × V)) : It :=
  ⟨fun i H => H a = some (.frz o (.dK kvs)) ∧ i < kvs.length, fun i H x H' => ∃ T k v, H T = none ∧ x = .ref T ∧ kvs[i]? = some (k, v) ∧ H' = upd H T (.tup [kV k, v]), fun i H => H a = some (.frz o (.dK kvs)) ∧ kvs.length ≤ i⟩
theorem turn_items {P : Program} {w : World} {K : PySem.W.Frag} {elts : List Expr} {kk : Nat} {tpos : Pos} (a it : Addr) (o : Obj) (kvs : List (Key × V)) {es : Array DictEntry} {ep : Nat} (hep : o.data = .dict es ep) :
    Turn P w K (.Tuple elts kk tpos) (Itd a o kvs) [it] it (fun i h => (∃ ok ov, IsItemIter h it a i kvs.length ep ok ov) ∧ i ≤ kvs.length) where
  mem := by simp
  obj := fun i h st b hb => by
    have e : b = it := by simpa using hb
    subst e
    obtain ⟨⟨ok, ov, q⟩, _⟩ := st
    exact ⟨_, q, fun v z => by
      have z' : Data.fields _ = Data.cell v := z
      cases z'⟩
  keep := fun i h h' st k => by
    obtain ⟨⟨ok, ov, q⟩, l⟩ := st
    exact ⟨⟨ok, ov, k it (by simp) _ q⟩, l⟩
  item := by
    intro X hP hw hK hc i pins s σ H E I hf st hg
    subst hP hw hK
    obtain ⟨hz, hi⟩ := hg
    obtain ⟨f0, f1, f2, f3, f4, f5⟩ := hf it (by simp)
    obtain ⟨⟨ok, ov, hit⟩, _⟩ := st
    obtain ⟨go, _, _, vs, rel, o', es', ep', g', ex, hd', r'⟩ := (show ObjOk X.prog X.w H s.heap a (.frz o (.dK kvs)) from I.hok a _ hz)
    rw [go] at g'; cases g'
    rw [hep] at hd'; cases hd'
    have hm : s.heap.DictAt (mixKind X.prog X.w) a vs ep := ⟨o, es, go, ex, hep, r'⟩
    have hl : vs.length = kvs.length := rel.length.symm
    obtain ⟨k, x, hx⟩ : ∃ k x, kvs[i]? = some (k, x) := ⟨_, _, List.getElem?_eq_getElem hi⟩
    obtain ⟨v, hv, rv⟩ := kv_get rel hx
    rw [← hl] at hit
    refine wpAny_pyNext_items_item (knd := mixKind X.prog X.w) hit hm hv fun key h' hkey hout htup hsz hkeep => ⟨_, rfl, wpAny_letOwnedTupleGo_items hout fun h2 hit2 hsb => ?_⟩
    have hT : H s.heap.objs.size = none := I.hok.fresh (Nat.le_refl _)
    have hil : it ≠ s.heap.objs.size := Nat.ne_of_lt (Heap.lt_size hit)
    have kept : ∀ b o, b ≠ it → s.heap.get? b = some o → h2.get? b = some o := fun b o hb q => hsb.extBut b o hb (hkeep b o hb q)
    have eT : h2.get? s.heap.objs.size = some { cls := .type "tuple", data := .seq #[key, v] } := hsb.extBut _ _ (Ne.symm hil) htup
    have ntr : ∀ b u, H b = some u → b ≠ it := fun b u q z => by rw [z, f0] at q; cases q
    have bT : ∀ b o, s.heap.get? b = some o → b ≠ s.heap.objs.size := fun b o q => Nat.ne_of_lt (Heap.lt_size q)
    have nit : ∀ b, b ∉ [it] → b ≠ it := fun b hb z => hb (by simp [z])
    have un : Un (frs X.stack) [it] H (upd H s.heap.objs.size (.tup [kV k, x])) s.heap h2 :=
      ⟨fun b o q _ _ n3 => kept b o (nit b n3) q, fun b o q _ _ n3 => ⟨o.slots, kept b o (nit b n3) q⟩, fun b o q n _ => by rw [upd_ne (bT b o q)]; exact n, fun b o q n3 => ⟨o, kept b o (nit b n3) q⟩,
        fun b xs q => by rw [upd_ne (ne_of_none q hT)]; exact q, fun b o v q => by rw [upd_ne (ne_of_none q hT)]; exact q, fun b ps q => ⟨#[], by rw [upd_ne (ne_of_none q hT), q]; simp⟩⟩
    have hok : HOk X.prog X.w (upd H s.heap.objs.size (.tup [kV k, x])) h2 := fun b u q => by
      by_cases hb : b = s.heap.objs.size
      · subst hb
        rw [upd_same] at q; cases q
        exact ⟨Nat.le_of_lt (small1000 (show (2 : Nat) ≤ 1000 by decide)), [key, v], .cons (key_rel hkey) (.cons rv .nil), _, eT, rfl, _, rfl⟩
      · rw [upd_ne hb] at q
        refine (I.hok b u q).stay (fun c' v' hc2 q' => ?_) (fun c' q' => by rw [upd_ne (ne_of_none q' hT)]; exact q') fun c' xs q' => by rw [upd_ne (ne_of_none q' hT)]; exact q'
        rcases hc2 with r | r
        · subst r; exact kept _ _ (ntr _ _ q) q'
        · exact kept _ _ (ntr _ _ r) q'
    refine ⟨.ref s.heap.objs.size, _, I.call' (s' := { s with heap := h2 }) rfl un hok I.bare (fun b hb => ?_), rfl, ⟨_, k, x, hT, rfl, hx, rfl⟩, ⟨⟨_, _, by rw [← hl]; exact hit2⟩, hi⟩, fun b hb => ?_⟩
    · have e : b = it := by simpa using hb
      subst e
      exact ⟨f3, f1, f4, f5⟩
    · have e : b = it := by simpa using hb
      subst e
      rw [upd_ne hil]; exact f0
  done := by
    intro X hP hw hK hc i pins s σ H E I hf st hg
    subst hP hw hK
    obtain ⟨hz, hi⟩ := hg
    obtain ⟨f0, f1, f2, f3, f4, f5⟩ := hf it (by simp)
    obtain ⟨⟨ok, ov, hit⟩, _⟩ := st
    obtain ⟨go, _, _, vs, rel, o', es', ep', g', ex, hd', r'⟩ := (show ObjOk X.prog X.w H s.heap a (.frz o (.dK kvs)) from I.hok a _ hz)
    rw [go] at g'; cases g'
    rw [hep] at hd'; cases hd'
    have hm : s.heap.DictAt (mixKind X.prog X.w) a vs ep := ⟨o, es, go, ex, hep, r'⟩
    have hl : vs.length = kvs.length := rel.length.symm
    rw [← hl] at hit
    exact wpAny_pyNext_items_end (knd := mixKind X.prog X.w) (I.ok.hd hc) hit hm (List.getElem?_eq_none (by omega)) fun h' eb => ⟨rfl, I.turned (t' := s.toks) (fun b o hb e => eb b o (by simpa using hb) e) f0 f1 f3 f4 f5⟩
  self := fun _ _ _ _ _ st h => by
    obtain ⟨⟨ok, ov, q⟩, _⟩ := st
    exact PySem.W.kcp_self q h
section
variable {X : Cx}
def iItems (tl : TE) : TI := fun σ H R => tl σ H fun x H1 => ∃ a kvs, x = .ref a ∧ ((H1 a = some (.dK kvs) ∧ ∀ o, R (Itd a o kvs) (upd H1 a (.frz o (.dK kvs)))) ∨ ∃ o, H1 a = some (.frz o (.dK kvs)) ∧ R (Itd a o kvs) H1)
theorem pi_items {elts : List Expr} {kk : Nat} {tpos : Pos} {l : Expr} {tl : TE} {apos cpos : Pos} (hl : PE X l tl) (hbase : attributeBase l "items" X.env (eval l X.env) = eval l X.env := by rfl) (hline : (apos.endLine == cpos.line) = true := by rfl) :
    PI X (.Tuple elts kk tpos) (.Call (.Attribute l "items" apos) [] [] cpos) (iItems tl) := by
  intro pins s σ H R I h
  refine wpAny_Call_method0_late hbase hline (thn (hl pins s σ H _ I h) fun v s1 ⟨x, H1, I1, r1, q1⟩ => ?_)
  obtain ⟨a, kvs, rfl, q⟩ := q1
  cases r1
  have rd : Rd H1 a (.dK kvs) := by
    rcases q with ⟨e, _⟩ | ⟨o, e, _⟩
    · exact .inl e
    · exact .inr ⟨o, e⟩
  obtain ⟨z, hsy, vs, rel, dd⟩ := dk_rd I1.hok rd
  obtain ⟨o, es, ep, go, ex, hd, r'⟩ := id dd
  refine ⟨"dict", "dict.items", PySem.F.plainAttrs_dict, PySem.F.slot_dict_items, PySem.F.type_dict_items, ⟨o, go, ex.1⟩, fun b e => by cases e; exact ⟨o, go, ex.2.1⟩, Calls.callWith_builtin rfl (PySem.evalArgs_none ?_)⟩
  refine call_meetsIn PySem.F.slot_dict_items dd.typeIs PySem.F.entry_dict_items (PySem.F.args_dict_items_1 _) (meets_dict_items (mixKind X.prog X.w) a hsy) ⟨⟨vs, dd⟩, ?_⟩
  have I2 : Inv X pins σ H1 { s1 with heap := s1.heap.push { cls := .type "dict_items", data := .fields #[.ref a] } } := I1.kept (t' := s1.toks) fun b ob e => Heap.get?_push_of_some _ e
  have hm : s1.heap.DictAt (mixKind X.prog X.w) a vs ep := ⟨o, es, go, ex, hd, r'⟩
  refine wpAny_pyIter_items (knd := mixKind X.prog X.w) (d := a) (kvs := vs) (ep := ep) ⟨_, Heap.get?_push_size _ rfl, rfl, rfl⟩ (hm.push _) ?_
  dsimp only
  generalize hG : s1.heap.push { cls := .type "dict_items", data := .fields #[.ref a] } = G at I2 ⊢
  have goG : G.get? a = some o := by rw [← hG]; exact Heap.get?_push_of_some _ go
  have I3 : ∀ H2, Inv X pins σ H2 { s1 with heap := G } → Inv X pins σ H2 { s1 with heap := G.push { cls := .type "dict_itemiterator", data := .fields #[.none, .bool false, .ref a, .int 0 0, .int vs.length 0, .int ep 0, .none, .none] } } := fun H2 J => J.kept (t' := s1.toks) fun b ob e => Heap.get?_push_of_some _ e
  have hln : vs.length = kvs.length := rel.length.symm
  have st : ∀ i, i = 0 → (∃ ok ov, IsItemIter (G.push { cls := .type "dict_itemiterator", data := .fields #[.none, .bool false, .ref a, .int 0 0, .int vs.length 0, .int ep 0, .none, .none] }) G.objs.size a i kvs.length ep ok ov) ∧ i ≤ kvs.length := fun i hi => by
    subst hi
    refine ⟨⟨.none, .none, ?_⟩, Nat.zero_le _⟩
    rw [← hln]
    exact Heap.get?_push_size _ rfl
  rcases q with ⟨e, q⟩ | ⟨o2, e, q⟩
  · have J := I2.freeze e goG
    refine ⟨G.objs.size, [G.objs.size], _, _, _, rfl, I3 _ J, turn_items a _ o kvs hd, st 0 rfl, fun b hb => ?_, q o⟩
    have e : b = G.objs.size := by simpa using hb
    subst e
    exact J.fpOk (Nat.le_refl _) (J.hok.fresh (Nat.le_refl _))
  · have x : s1.heap.get? a = some o2 := (show s1.heap.get? a = some o2 ∧ _ from I1.hok a _ e).1
    rw [go] at x; cases x
    refine ⟨G.objs.size, [G.objs.size], _, _, _, rfl, I3 _ I2, turn_items a _ o kvs hd, st 0 rfl, fun b hb => ?_, q⟩
    have e : b = G.objs.size := by simpa using hb
    subst e
    exact I2.fpOk (Nat.le_refl _) (I2.hok.fresh (Nat.le_refl _))
def Ends.thaw (a : Addr) (kvs : List (Key × V)) (D : Ends) : Ends :=
  ⟨fun σ H => ∃ o, H a = some (.frz o (.dK kvs)) ∧ D.nx σ (upd H a (.dK kvs)), fun v H => ∃ o, H a = some (.frz o (.dK kvs)) ∧ D.rt v (upd H a (.dK kvs)),
   fun σ H => ∃ o, H a = some (.frz o (.dK kvs)) ∧ D.bk σ (upd H a (.dK kvs)), fun σ H => ∃ o, H a = some (.frz o (.dK kvs)) ∧ D.ct σ (upd H a (.dK kvs))⟩
def tThaw (t : TS) : TS := fun D σ H => t D σ H ∨ ∃ a kvs, H a = some (.dK kvs) ∧ t (D.thaw a kvs) σ H
theorem ps_thaw {st : Stmt} {t : TS} (h : PS X st t) : PS X st (tThaw t) := by
  intro pins s σ H D I q
  rcases q with q | ⟨a, kvs, e, q⟩
  · exact h pins s σ H D I q
  have h0 : ∀ o u, X.H₀ a ≠ some (.frz o u) := fun o u z => by
    have := I.base.frzs a o u z
    rw [e] at this; cases this
  refine thn (h pins s σ H _ I q) fun f s1 q1 => ?_
  cases f with
  | next => obtain ⟨σ1, H1, I1, o, e1, q1⟩ := q1; exact ⟨σ1, _, I1.thaw h0 e1, q1⟩
  | brk => obtain ⟨σ1, H1, I1, o, e1, q1⟩ := q1; exact ⟨σ1, _, I1.thaw h0 e1, q1⟩
  | cont => obtain ⟨σ1, H1, I1, o, e1, q1⟩ := q1; exact ⟨σ1, _, I1.thaw h0 e1, q1⟩
  | ret u => obtain ⟨v, σ1, H1, I1, r1, o, e1, q1⟩ := q1; exact ⟨v, σ1, _, I1.thaw h0 e1, r1, q1⟩
end
theorem st_for_items {tl : TE} {g : TG} {tb : TS} {D : Ends} {σ : St} {H : Hp} {a : Addr} {kvs : List (Key × V)} (e : ∀ P : V → Hp → Prop, P (.ref a) H → tl σ H P) (h : H a = some (.dK kvs)) (Pv : Obj → Nat → St → Hp → Prop)
    (h0 : ∀ o, Pv o 0 σ (upd H a (.frz o (.dK kvs)))) (hk : ∀ o i σ H, Pv o i σ H → H a = some (.frz o (.dK kvs)))
    (hs : ∀ o i k v σ H p, kvs[i]? = some (k, v) → Pv o i σ H → H p = none → g (.ref p) σ (upd H p (.tup [kV k, v])) fun σ2 H2 => tb { D.thaw a kvs with nx := Pv o (i + 1), ct := Pv o (i + 1), bk := (D.thaw a kvs).nx } σ2 H2)
    (hd : ∀ o σ H, Pv o kvs.length σ H → D.nx σ (upd H a (.dK kvs))) : tThaw (tFor (iItems tl) g tb) D σ H := by
  refine .inr ⟨a, kvs, h, e _ ⟨a, kvs, rfl, .inl ⟨h, fun o => ⟨fun i m σ H => m = kvs.length - i ∧ i ≤ kvs.length ∧ Pv o i σ H, ⟨kvs.length, by simp, Nat.zero_le _, h0 o⟩, ?_⟩⟩⟩⟩
  rintro i m σ H ⟨rfl, hi, p⟩
  by_cases hlt : i < kvs.length
  · refine .inr ⟨⟨hk o i σ H p, hlt⟩, Pv o (i + 1), fun σ' H' p' => ⟨kvs.length - (i + 1), by omega, rfl, hlt, p'⟩, fun x H' y => ?_⟩
    obtain ⟨A, k, v, hA, rfl, hx, rfl⟩ := y
    exact hs o i k v σ H A hx p hA
  · have e : i = kvs.length := by omega
    subst e
    exact .inl ⟨⟨hk o _ σ H p, Nat.le_refl _⟩, o, hk o _ σ H p, hd o σ H p⟩
theorem same_thaw {H H' : Hp} {a : Addr} {kvs : List (Key × V)} {o : Obj} (h : H a = some (.dK kvs)) (hS : Same (upd H a (.frz o (.dK kvs))) H') : Same H (upd H' a (.dK kvs)) := fun b u q => by
  by_cases hb : b = a
  · subst hb
    rw [h] at q; cases q
    exact upd_same
  · rw [upd_ne hb]
    exact hS b u (by rw [upd_ne hb]; exact q)
theorem same_frozen {H H' : Hp} {a : Addr} {kvs : List (Key × V)} {o : Obj} (hS : Same (upd H a (.frz o (.dK kvs))) H') : H' a = some (.frz o (.dK kvs)) := hS _ _ upd_same
end L2

set_option Elab.async false
set_option linter.all false
set_option maxRecDepth 100000
set_option maxHeartbeats 1000000
namespace L2
open PySem PySem.Spec PyProof.Rows
open PySem.SeqAt (EqAt)
section
variable {prog : Program} {w : World} {A : Around} {E : Value → Shared → Prop} {s : Shared} {a b : Addr} {kvs kvs2 : List (Key × Value)} {nm : String}
theorem samePairs_ok (hsa : (a == sysModules) = false) (hsb : (b == sysModules) = false) (h1 : s.heap.DictOf (mixKind prog w) a kvs) (h2 : s.heap.DictOf (mixKind prog w) b kvs2) (e : Key → Bool)
    (he : ∀ k v v2, (k, v) ∈ kvs → valueAt kvs2 k = some v2 → EqAt A s v v2 (e k)) {Q : Bool → Shared → Prop} (h : Q (decide (kvs.length = kvs2.length) && kvs.all fun p => (valueAt kvs2 p.1).isSome && e p.1) s) :
    wpAny (model prog w) A (Builtin.Dict.samePairs nm a b) Q E s := by
  obtain ⟨o1, es1, ep1, g1, x1, d1, k1, p1, n1⟩ := id h1
  obtain ⟨o2, es2, ep2, g2, x2, d2, k2, p2, n2⟩ := id h2
  have l1 : es1.size = kvs.length := by rw [← p1.length]; simp
  have l2 : es2.size = kvs2.length := by rw [← p2.length]; simp
  unfold Builtin.Dict.samePairs Builtin.Dict.showsAll
  rw [if_neg (by rw [hsa]; exact Bool.false_ne_true), if_neg (by rw [hsb]; exact Bool.false_ne_true)]
  refine wpAny_bind (wpAny_pure (wpAny_bind (wpAny_pure ?_)))
  refine wpAny_bind (wpAny_dictEntries g1 d1 ?_)
  refine wpAny_bind (wpAny_dictEntries g2 d2 ?_)
  by_cases hsz : es1.size = es2.size
  case neg =>
    rw [if_pos (by simpa using hsz)]
    rw [decide_eq_false (by rw [← l1, ← l2]; exact hsz), Bool.false_and] at h
    exact wpAny_bind (wpAny_rule (wpAny_pure h))
  case pos =>
    rw [if_neg (by simpa using hsz)]
    rw [decide_eq_true (by rw [← l1, ← l2]; exact hsz), Bool.true_and] at h
    refine wpAny_bind (wpAny_dictEpoch g1 d1 ?_)
    refine wpAny_bind ?_
    rw [Std.Legacy.Range.forIn_eq_forIn_range']
    simp only [Std.Legacy.Range.size, Nat.sub_zero, Nat.add_sub_cancel, Nat.div_one]
    refine wpAny_forIn_list _
      (fun rest r s' => ∃ i, s' = s ∧ rest = List.range' i (es1.size - i) ∧ i ≤ es1.size ∧ r = (none, ()) ∧ (kvs.take i).all (fun p => (valueAt kvs2 p.1).isSome && e p.1) = true)
      _ ?_ ?_ _ _ ⟨0, rfl, by simp, Nat.zero_le _, rfl, by simp⟩
    · rintro x rest _ _ ⟨i, rfl, hr, hi, rfl, hall⟩
      have hlt : i < es1.size := by
        rcases Nat.lt_or_ge i es1.size with h | h
        · exact h
        · rw [Nat.sub_eq_zero_of_le h] at hr; simp at hr
      obtain ⟨rfl, hrest⟩ : x = i ∧ rest = List.range' (i + 1) (es1.size - (i + 1)) := by
        have e : es1.size - i = (es1.size - (i + 1)) + 1 := by omega
        rw [e, List.range'_succ] at hr
        injection hr with h1 h2
        exact ⟨h1, h2⟩
      refine wpAny_bind (wpAny_dictEntries g1 d1 ?_)
      rw [Array.getElem?_eq_getElem hlt]
      obtain ⟨⟨k, v⟩, hkv⟩ : ∃ kv, kvs[x]? = some kv := ⟨kvs[x]'(by rw [← l1]; exact hlt), List.getElem?_eq_getElem _⟩
      obtain ⟨hkey, hval⟩ := p1.get? (e := es1[x]) (by simp [hlt]) hkv
      obtain ⟨k', hkey', hhash⟩ := k1 es1[x] (Array.getElem_mem hlt)
      obtain rfl : k' = k := (mixKind prog w).inj _ _ _ hkey' hkey
      have hmem : (k', v) ∈ kvs := List.mem_of_getElem? hkv
      have step : ∀ b : Bool, b = ((valueAt kvs2 k').isSome && e k') → (kvs.take (x + 1)).all (fun p => (valueAt kvs2 p.1).isSome && e p.1) = b := fun b hb => by
        rw [Tw.take_succ_get hkv, List.all_append, hall, Bool.true_and, hb]
        simp
      have whole : (kvs.take (x + 1)).all (fun p => (valueAt kvs2 p.1).isSome && e p.1) = false → kvs.all (fun p => (valueAt kvs2 p.1).isSome && e p.1) = false := fun hf => by
        rw [← List.take_append_drop (x + 1) kvs, List.all_append, hf, Bool.false_and]
      have mf : valueAt kvs2 k' = findBy (mixKind prog w).is es2 k' := by
        obtain ⟨o3, es3, ep3, g3, _, d3, _, f3⟩ := h2.mapOf
        rw [g2] at g3; cases g3
        rw [d2] at d3; cases d3
        exact (f3 k').symm
      refine wpAny_bind (wpAny_holding ?_)
      rw [hhash, hval]
      refine wpAny_bind (wpAny_dictFind_of hkey g2 d2 k2 ?_)
      rw [findBy_of_findIdx?] at mf
      cases hf : es2.findIdx? (fun e => (mixKind prog w).is k' e.key) with
      | none =>
        rw [hf] at mf
        refine wpAny_pure ?_
        rw [if_pos (by rfl)]
        refine wpAny_pure (wpAny_pure ?_)
        rw [whole (step false (by rw [mf]; rfl))] at h
        exact h
      | some j =>
        obtain ⟨hj, _, _⟩ := Array.findIdx?_eq_some_iff_getElem.mp hf
        rw [hf] at mf
        have mf' : valueAt kvs2 k' = some es2[j].val := by rw [mf]; simp [hj]
        refine wpAny_bind (wpAny_dictEntries g2 d2 ?_)
        rw [Array.getElem?_eq_getElem hj]
        refine wpAny_holding (he k' v _ hmem mf' _ _ _ _ ?_)
        cases hek : e k' with
        | false =>
          rw [if_pos (by rfl)]
          refine wpAny_pure (wpAny_pure ?_)
          rw [whole (step false (by rw [hek, Bool.and_false]))] at h
          exact h
        | true =>
          rw [if_neg (by decide)]
          refine wpAny_bind (wpAny_dictEpoch g1 d1 ?_)
          rw [if_neg (by simp)]
          exact wpAny_pure ⟨x + 1, rfl, hrest, hlt, rfl, step true (by rw [hek, mf']; rfl)⟩
    · rintro _ _ ⟨i, rfl, hr, hi, rfl, hall⟩
      have hin : i = es1.size := by
        rcases Nat.lt_or_ge i es1.size with h | h
        · have e : es1.size - i = (es1.size - (i + 1)) + 1 := by omega
          rw [e, List.range'_succ] at hr; exact nomatch hr
        · exact Nat.le_antisymm hi h
      rw [hin, l1, List.take_length] at hall
      rw [hall] at h
      exact wpAny_pure h
end

theorem kv_mem : ∀ {kvs : List (Key × V)} {vs : List (Key × Value)}, KV kvs vs → ∀ {k : Key} {v : Value}, (k, v) ∈ vs → ∃ x, (k, x) ∈ kvs ∧ RelV x v := by
  intro kvs vs r
  induction r with
  | nil => intro k v h; cases h
  | @cons p q ps qs h t ih =>
    intro k v m
    rcases List.mem_cons.mp m with e | m
    · subst e
      obtain ⟨h1, h2⟩ := h
      obtain ⟨pk, px⟩ := p
      cases (show pk = k from h1)
      exact ⟨px, List.mem_cons_self .., h2⟩
    · obtain ⟨x, m', rx⟩ := ih m
      exact ⟨x, List.mem_cons_of_mem _ m', rx⟩
theorem valV_mem {kvs : List (Key × V)} {k : Key} {x : V} (h : valV kvs k = some x) : (k, x) ∈ kvs := by
  unfold valV at h
  obtain ⟨p, hp, e⟩ := Option.map_eq_some_iff.mp h
  have m := List.mem_of_find?_eq_some hp
  have ek : p.1 = k := by
    have z := List.find?_some hp
    exact of_decide_eq_true z
  obtain ⟨pk, px⟩ := p
  cases (show pk = k from ek)
  cases (show px = x from e)
  exact m
def Flat8 (d : PyData) : Prop := d.canLay0 = true ∧ d.depth ≤ 8
def sameD (kvs kvs2 : List (Key × V)) (f g : Key → PyData) : Bool := decide (kvs.length = kvs2.length) && kvs.all fun p => (valV kvs2 p.1).isSome && PyData.eqv (f p.1) (g p.1)
def rEqM (neg : Bool) (K : PySem.W.Frag) : R2 := fun x y H Q => ∃ a b kvs kvs2 f g, x = .ref a ∧ y = .ref b ∧ Rd H a (.dK kvs) ∧ Rd H b (.dK kvs2) ∧ (∀ k x, (k, x) ∈ kvs → DV K H x (f k) ∧ Flat8 (f k)) ∧ (∀ k x, (k, x) ∈ kvs2 → DV K H x (g k) ∧ Flat8 (g k)) ∧
  Q (.bl (sameD kvs kvs2 f g ^^ neg)) H
section
variable {X : Cx} {pins : List (Addr × Obj)} {σ : St} {H : Hp} {s : Shared} {a b : Addr} {kvs kvs2 : List (Key × V)} {f g : Key → PyData}
theorem same_pairs {A : Around} {E : Value → Shared → Prop} {nm : String} {Q : Bool → Shared → Prop} (hu : A.units + 8 < cLine) (I : Inv X pins σ H s) (ha : Rd H a (.dK kvs)) (hb : Rd H b (.dK kvs2)) (hf : ∀ k x, (k, x) ∈ kvs → DV X.K H x (f k) ∧ Flat8 (f k))
    (hg : ∀ k x, (k, x) ∈ kvs2 → DV X.K H x (g k) ∧ Flat8 (g k)) (h : Q (sameD kvs kvs2 f g) s) : wpAny (model X.prog X.w) A (Builtin.Dict.samePairs nm a b) Q E s := by
  obtain ⟨_, s1, vs, r1, d1⟩ := dk_rd I.hok ha
  obtain ⟨_, s2, vs2, r2, d2⟩ := dk_rd I.hok hb
  refine samePairs_ok s1 s2 d1 d2 (fun k => PyData.eqv (f k) (g k)) (fun k v v2 m e => ?_) ?_
  · obtain ⟨x, mx, rx⟩ := kv_mem r1 m
    have q := r2.val k
    rw [e] at q
    cases ev : valV kvs2 k with
    | none => rw [ev] at q; exact (show False from q).elim
    | some x2 =>
      rw [ev] at q
      have rx2 : RelV x2 v2 := q
      obtain ⟨dx, sx⟩ := hf k x mx
      obtain ⟨dx2, sx2⟩ := hg k x2 (valV_mem ev)
      obtain ⟨as, ra⟩ := dx.reads I rx
      obtain ⟨bs, rb⟩ := dx2.reads I rx2
      exact SeqAt.eqAt_reads _ _ _ _ _ _ _ _ ra rb sx.1 sx2.1 (by have h8 := sx.2; have hm := Nat.min_le_left (f k).depth (g k).depth; omega)
  · have e1 : vs.length = kvs.length := r1.length.symm
    have e2 : vs2.length = kvs2.length := r2.length.symm
    have e3 : (vs.all fun p => (valueAt vs2 p.1).isSome && PyData.eqv (f p.1) (g p.1)) = kvs.all fun p => (valV kvs2 p.1).isSome && PyData.eqv (f p.1) (g p.1) := by
      have hk : ∀ k, (valueAt vs2 k).isSome = (valV kvs2 k).isSome := fun k => ((r2.val k).isSome_eq).symm
      have a1 : (vs.all fun p => (valueAt vs2 p.1).isSome && PyData.eqv (f p.1) (g p.1)) = (vs.map (·.1)).all fun k => (valV kvs2 k).isSome && PyData.eqv (f k) (g k) := by
        rw [List.all_map]
        congr 1
        funext p
        simp only [Function.comp_apply, hk]
      have a2 : (kvs.all fun p => (valV kvs2 p.1).isSome && PyData.eqv (f p.1) (g p.1)) = (kvs.map (·.1)).all fun k => (valV kvs2 k).isSome && PyData.eqv (f k) (g k) := by
        rw [List.all_map]
        rfl
      rw [a1, a2, r1.keys]
    rw [e1, e2, e3]
    exact h
theorem op_eqM (hu : X.A.units + 64 < cLine) : OpR X (compareOp .Eq) (rEqM false X.K) := by
  intro pins s σ H x y v u Q I rx ry h
  obtain ⟨a, b, kvs, kvs2, f, g, rfl, rfl, ha, hb, hf, hg, q⟩ := h
  cases rx
  cases ry
  obtain ⟨_, s1, vs, r1, d1⟩ := dk_rd I.hok ha
  obtain ⟨_, s2, vs2, r2, d2⟩ := dk_rd I.hok hb
  show wpAny _ _ (richCompare .Eq (.ref a) (.ref b)) _ _ s
  refine wpAny_richCompare_same_room d1.typeIs d2.typeIs PySem.F.slot_dict_eq (wpAny_call_entry PySem.F.slot_dict_eq d1.typeIs PySem.F.entry_dict_eq ?_ (PySem.F.args_dict_eq_2 _ _)) (by omega)
  show wpAny _ _ (Builtin.Dict.dictSlotArgs "__eq__" ⟨[.ref a, .ref b], []⟩ >>= _) _ _ s
  refine wpAny_bind ?_
  unfold Builtin.Dict.dictSlotArgs
  refine wpAny_bind (wpAny_notOrdered_dict d1.typeIs ?_)
  show wpAny _ _ (pure ((Value.ref a, Value.ref b) : Value × Value)) _ _ s
  refine wpAny_pure ?_
  refine wpAny_bind (wpAny_isInstance d2.typeIs PySem.F.sub_dict_dict ?_)
  rw [if_neg (by decide)]
  refine wpAny_bind (wpAny_pure (wpAny_bind (wpAny_pure ?_)))
  refine wpAny_bind (same_pairs (by rw [units_in1]; omega) I ha hb hf hg ?_)
  refine wpAny_pure ?_
  refine Exists.intro _ (And.intro rfl (And.intro (fun z => nomatch z) ?_))
  refine ⟨.bl _, H, I, rfl, ?_⟩
  rw [Bool.xor_false] at q
  have e : (sameD kvs kvs2 f g == true) = sameD kvs kvs2 f g := by cases sameD kvs kvs2 f g <;> rfl
  rw [e]
  exact q
theorem op_neM (hu : X.A.units + 64 < cLine) : OpR X (compareOp .NotEq) (rEqM true X.K) := by
  intro pins s σ H x y v u Q I rx ry h
  obtain ⟨a, b, kvs, kvs2, f, g, rfl, rfl, ha, hb, hf, hg, q⟩ := h
  cases rx
  cases ry
  obtain ⟨_, s1, vs, r1, d1⟩ := dk_rd I.hok ha
  obtain ⟨_, s2, vs2, r2, d2⟩ := dk_rd I.hok hb
  show wpAny _ _ (richCompare .NotEq (.ref a) (.ref b)) _ _ s
  refine wpAny_richCompare_same_room d1.typeIs d2.typeIs PySem.F.slot_dict_ne (wpAny_call_entry PySem.F.slot_dict_ne d1.typeIs PySem.F.entry_dict_ne ?_ (PySem.F.args_dict_ne_2 _ _)) (by omega)
  show wpAny _ _ (Builtin.Dict.dictSlotArgs "__ne__" ⟨[.ref a, .ref b], []⟩ >>= _) _ _ s
  refine wpAny_bind ?_
  unfold Builtin.Dict.dictSlotArgs
  refine wpAny_bind (wpAny_notOrdered_dict d1.typeIs ?_)
  show wpAny _ _ (pure ((Value.ref a, Value.ref b) : Value × Value)) _ _ s
  refine wpAny_pure ?_
  refine wpAny_bind (wpAny_isInstance d2.typeIs PySem.F.sub_dict_dict ?_)
  rw [if_neg (by decide)]
  refine wpAny_bind (wpAny_pure (wpAny_bind (wpAny_pure ?_)))
  refine wpAny_bind (same_pairs (by rw [units_in1]; omega) I ha hb hf hg ?_)
  refine wpAny_pure ?_
  refine Exists.intro _ (And.intro rfl (And.intro (fun z => nomatch z) ?_))
  refine ⟨.bl _, H, I, rfl, ?_⟩
  have e : (sameD kvs kvs2 f g == false) = (sameD kvs kvs2 f g ^^ true) := by cases sameD kvs kvs2 f g <;> rfl
  rw [e]
  exact q
end
end L2

set_option Elab.async false
set_option linter.all false
set_option maxRecDepth 100000
namespace L2
open PySem PySem.Spec PyProof.Rows
section
variable {X : Cx}
def rDict : List V → Hp → VK → Prop := fun xs H Q => ∃ a kvs, xs = [.ref a] ∧ Rd H a (.dK kvs) ∧ ∀ p, H p = none → Q (.ref p) (upd H p (.dK kvs))
theorem call_dictQ : CallR X (.type "dict") rDict := by
  intro pins s σ H xs us Q I r h
  obtain ⟨a, kvs, rfl, e, q⟩ := h
  obtain ⟨u, rfl, ru⟩ := Vals.one r
  cases (show u = Value.ref a from ru)
  exact d_copyOf I e fun p s' hp I' => ⟨.ref p, _, I', rfl, q p hp⟩
def rDClear : V → List V → Hp → VK → Prop := fun x vs H Q => ∃ a kvs, x = .ref a ∧ vs = [] ∧ H a = some (.dK kvs) ∧ Q .non (upd H a (.dK []))
theorem mt_dclear : MtR X "dict.clear" rDClear := by
  intro pins s σ H x xs v us Q I rx rs h
  obtain ⟨a, kvs, rfl, rfl, e, q⟩ := h
  cases (show v = Value.ref a from rx)
  cases rs
  exact d_clear I e fun s' I' => ⟨.non, _, I', rfl, q⟩
end
section
variable {K : PySem.W.Frag} {H : Hp} {Q : VK} {a b : Addr} {kvs kvs2 : List (Key × V)} {σ : St} {td ty tx tv : TE}
theorem st_dict (h : H a = some (.dK kvs)) (q : ∀ p, H p = none → Q (.ref p) (upd H p (.dK kvs))) : rDict [.ref a] H Q := ⟨a, kvs, rfl, .inl h, q⟩
theorem st_dictF {o : Obj} (h : H a = some (.frz o (.dK kvs))) (q : ∀ p, H p = none → Q (.ref p) (upd H p (.dK kvs))) : rDict [.ref a] H Q := ⟨a, kvs, rfl, .inr ⟨o, h⟩, q⟩
theorem st_dclear (h : H a = some (.dK kvs)) (q : Q .non (upd H a (.dK []))) : rDClear (.ref a) [] H Q := ⟨a, kvs, rfl, rfl, h, q⟩
theorem st_tyD {P : Prop} (h : H a = some (.dK kvs)) (q : P) : tyV K "dict" (.ref a) H ∧ P := ⟨.inr (.inr (.inl ⟨rfl, .inl ⟨kvs, h⟩⟩)), q⟩
abbrev atZ (kvs : List (Key × V)) (i : Int) : Option V := valV kvs (.inl i)
theorem dget_z {i : Int} (h : Rd H a (.dK kvs)) : DGet H a (.int i) (atZ kvs i) := .inl ⟨kvs, .inl i, h, rfl, rfl⟩
theorem dput_z {i : Int} {v : V} (h : H a = some (.dK kvs)) (hl : kvs.length ≤ 1000) : DPut H a (.int i) v (upd H a (.dK (putK kvs (.inl i) v))) := .inl ⟨kvs, .inl i, h, rfl, small1000 hl, rfl⟩
theorem st_dget2 (h : td σ H fun x H1 => ∃ a, x = .ref a ∧ IsD H1 a ∧ ty σ H1 fun y H2 => tx σ H2 fun z H3 => ∃ o, DGet H3 a y o ∧ Q (o.getD z) H3) : tDGet2 td ty tx σ H Q := h
theorem st_dput {D : Ends} (h : tv σ H fun v H1 => td σ H1 fun x H2 => ty σ H2 fun y H3 => ∃ a H4, x = .ref a ∧ DPut H3 a y v H4 ∧ D.nx σ H4) : sDPut td ty tv D σ H := h
theorem st_eqM {f g : Key → PyData} {neg : Bool} (ha : Rd H a (.dK kvs)) (hb : Rd H b (.dK kvs2)) (hf : ∀ k x, (k, x) ∈ kvs → DV K H x (f k) ∧ Flat8 (f k)) (hg : ∀ k x, (k, x) ∈ kvs2 → DV K H x (g k) ∧ Flat8 (g k)) (q : Q (.bl (sameD kvs kvs2 f g ^^ neg)) H) : rEqM neg K (.ref a) (.ref b) H Q :=
  ⟨a, b, kvs, kvs2, f, g, rfl, rfl, ha, hb, hf, hg, q⟩
end
def pairD (p : Int × Int) : PyData := .tuple ([p.1, p.2].map PyData.int)
theorem pair_flat (p : Int × Int) : Flat8 (pairD p) := by
  have h := shaped_ints [p.1, p.2]
  refine ⟨SeqAt.canLay_of_shaped h, ?_⟩
  simp [pairD, PyData.depth, PySem.W.ke_depthAll, PyData.depthAll]
theorem pair_dv {K : PySem.W.Frag} {H : Hp} {a : Addr} {p : Int × Int} (h : SqT K H a [.int p.1, .int p.2]) : DV K H (.ref a) (pairD p) := .tup h (dvs_ints [p.1, p.2])
theorem pair_eqv (p q : Int × Int) : PyData.eqv (pairD p) (pairD q) = decide (p = q) := by
  unfold pairD
  rw [PyData.eqv, eqv_ints]
  obtain ⟨a, b⟩ := p
  obtain ⟨c, d⟩ := q
  simp
end L2

set_option Elab.async false
set_option linter.all false
set_option maxRecDepth 100000
namespace L2
open PySem PySem.Spec PyProof.Rows
structure KCal (P : Program) (w : World) (K : PySem.W.Frag) (mg : Str → Option Value) (base : Heap) (CX : CXT) (k : Nat) (x : Str) (C : Addr) (ps : List Str) (sp : Sp) : Prop where
  ex : ∃ f fd, Mk K C f ∧ FnOk P w K mg base CX k f fd ps sp ∧ Binds K fd ps [] ∧ mg x = some (.ref C)
structure MCal (P : Program) (w : World) (K : PySem.W.Frag) (mg : Str → Option Value) (base : Heap) (CX : CXT) (k : Nat) (C : Addr) (m : Str) (ps : List Str) (sp : Sp) : Prop where
  cl : Cls K C
  ex : ∃ f fd, Meth K C m f ∧ FnOk P w K mg base CX k f fd ps sp ∧ Binds K fd ps []
structure CMeth (K : PySem.W.Frag) (C : Addr) (m : Str) (f : Addr) : Prop where
  g : PySem.W.specialIn K (.ref C) "__getattribute__" = some (some (.builtin "type.__getattribute__"))
  r : PySem.W.readsIn K C (.type "type") = true
  e : PySem.W.findCls K (.ref C) (.type "type") m = some (.val (.ref f))
  kp : PySem.W.keepIn K (.ref f) = true
structure CCal (P : Program) (w : World) (K : PySem.W.Frag) (mg : Str → Option Value) (base : Heap) (CX : CXT) (k : Nat) (x m : Str) (ps : List Str) (sp : Sp) : Prop where
  ex : ∃ C f fd, mg x = some (.ref C) ∧ CMeth K C m f ∧ FnOk P w K mg base CX k f fd ps sp ∧ Binds K fd ps []
section
variable {X : Cx} {CX : CXT} {j k : Nat} {C : Addr} {ps : List Str} {sp : Sp} {E : XK} {x m : Str} {p pos apos : Pos} {e o : Expr} {es : List Expr} {ta : TE} {t : TA}
theorem pe_new (c : KCal X.prog X.w X.K X.mg X.base CX k x C ps sp) (hr : Room j X.A) (hx : Passes CX X E) (ha : PA X (e :: es) t) (hk : k + 1 ≤ j := by decide) (hg : Gl X x := by rfl) (hdb : (x == ("__debug__" : Str)) = false := by decide)
    (he : starEach (e :: es) X.env = (false, eval e X.env) :: starEach es X.env := by rfl) (hpl : (backTo pos (starEach es X.env)).any (·.1) = false := by rfl) :
    PE X (.Call (.Name x p) (e :: es) [] pos) (tMake C sp [] E t) := by
  obtain ⟨f, fd, M, F, b, m⟩ := c.ex
  exact pe_make M F (hr.mono hk) hg m b .nil hx ha hdb he hpl
theorem pe_new0 (c : KCal X.prog X.w X.K X.mg X.base CX k x C ps sp) (hr : Room j X.A) (hx : Passes CX X E) (hk : k + 1 ≤ j := by decide) (hg : Gl X x := by rfl) (hdb : (x == ("__debug__" : Str)) = false := by decide) :
    PE X (.Call (.Name x p) [] [] pos) (tMake C sp [] E tNil) := by
  obtain ⟨f, fd, M, F, b, m⟩ := c.ex
  exact pe_make0 M F (hr.mono hk) hg m b .nil hx hdb
theorem pe_cm {pl : Sem Bool} (c : CCal X.prog X.w X.K X.mg X.base CX k x m ps sp) (hr : Room j X.A) (hx : Passes CX X E) (ha : PA X (e :: es) t) (hk : k ≤ j := by decide) (hg : Gl X x := by rfl) (hdb : (x == ("__debug__" : Str)) = false := by decide)
    (hst : starEach (e :: es) X.env = (false, eval e X.env) :: starEach es X.env := by rfl) (hpl : (backTo pos (starEach es X.env)).any (·.1) = false := by rfl)
    (ht : eval (.Call (.Attribute (.Name x p) m apos) (e :: es) [] pos) X.env = (do
      let ov ← eval (.Name x p) X.env
      standAt apos.atName
      let (f, first) ← holding [ov] (getMethod ov m pl)
      callWith pos f first (backTo pos (starEach (e :: es) X.env)) (backToKw pos (keywordEach [] X.env))) := by rfl) :
    PE X (.Call (.Attribute (.Name x p) m apos) (e :: es) [] pos) (tCall sp [] E t) := by
  intro pins s σ H Q I h
  obtain ⟨C, f, fd, hm, cm, F, b⟩ := c.ex
  refine PySem.W.methodCall_KW (pl := pl) (ld_glob I hg hm ?_ hdb) ht
  refine PySem.W.method_cls I.kIn cm.g (PySem.W.cls_value I.kIn cm.r cm.e rfl ?_)
  refine PySem.W.callWith_K (first := []) (h₀ := X.base) I.ok.mod.kin cm.kp (thn (ha pos pins _ σ H _ (I.tok _) h) fun us s2 ⟨vs, H2, I2, r, q2⟩ => ⟨I2.kIn, ?_⟩) hst hpl
  exact run_fn F (hr.mono hk) b .nil hx I2 r q2
def Tab (K : PySem.W.Frag) (a : Addr) (D : List (Str × Int)) : Prop := KTD.tabLook (KTD.datLooks fun b => K.lookup b) (fun b => K.lookup b) a (D.map fun p => (p.1, KTD.Dat.flat (.int p.2))) = true
def GTab (K : PySem.W.Frag) (mg : Str → Option Value) (x : Str) (a : Addr) (D : List (Str × Int)) : Prop := mg x = some (.ref a) ∧ Tab K a D
theorem pe_gt {a : Addr} {D : List (Str × Int)} (h : GTab X.K X.mg x a D) (hg : Gl X x := by rfl) (hd : (x == ("__debug__" : Str)) = false := by decide) : PE X (.Name x pos) (tC (.ref a)) := pe_glob hg h.1 rfl hd
def tabAt (k : Str) (D : List (Str × Int)) : Option Int := KTD.datumAt k D
theorem tab_keys {k : Str} : ∀ D : List (Str × Int), KTD.inKeys k (D.map fun p => (p.1, KTD.Dat.flat (.int p.2))) = (KTD.datumAt k D).isSome := by
  intro D
  rw [← KTD.isSome_datumAt]
  induction D with
  | nil => rfl
  | cons p D ih =>
    rw [List.map_cons]
    unfold KTD.datumAt
    by_cases hk : k = p.1
    · simp only [hk]
      rfl
    · simp only [hk]
      exact ih
theorem tab_datum {k : Str} {d : KTD.Dat} : ∀ D : List (Str × Int), KTD.datumAt k (D.map fun p => (p.1, KTD.Dat.flat (.int p.2))) = some d → ∃ i, KTD.datumAt k D = some i ∧ d = .flat (.int i) := by
  intro D
  induction D with
  | nil => intro h; cases h
  | cons p D ih =>
    rw [List.map_cons]
    unfold KTD.datumAt
    by_cases hk : k = p.1
    · simp only [hk]
      intro h
      exact ⟨p.2, rfl, (Option.some.inj h).symm⟩
    · simp only [hk]
      exact ih
def rInTab (K : PySem.W.Frag) (neg : Bool) : R2 := fun x y H Q => ∃ k a D, x = .str k ∧ y = .ref a ∧ Tab K a D ∧ Q (.bl (neg != (tabAt k D).isSome)) H
theorem op_inTab : OpR X (compareOp .In) (rInTab X.K false) := by
  intro pins s σ H x y v u Q I rx ry h
  obtain ⟨k, a, D, rfl, rfl, hT, q⟩ := h
  obtain ⟨t, rfl⟩ := rx
  cases ry
  refine KTD.in_text ⟨PySem.W.kt_text_in I.kIn hT, fun _ _ z => z⟩ ⟨.bl _, H, I.tok _, rfl, ?_⟩
  rw [tab_keys]
  have e : (false != (tabAt k D).isSome) = (KTD.datumAt k D).isSome := by unfold tabAt; cases (KTD.datumAt k D).isSome <;> rfl
  rw [e] at q
  exact q
theorem op_notInTab : OpR X (compareOp .NotIn) (rInTab X.K true) := by
  intro pins s σ H x y v u Q I rx ry h
  obtain ⟨k, a, D, rfl, rfl, hT, q⟩ := h
  obtain ⟨t, rfl⟩ := rx
  cases ry
  refine KTD.notin_text ⟨PySem.W.kt_text_in I.kIn hT, fun _ _ z => z⟩ ⟨.bl _, H, I.tok _, rfl, ?_⟩
  rw [tab_keys]
  have e : (true != (tabAt k D).isSome) = !(KTD.datumAt k D).isSome := by unfold tabAt; cases (KTD.datumAt k D).isSome <;> rfl
  rw [e] at q
  exact q
def rIxTab (K : PySem.W.Frag) : R2 := fun x y H Q => ∃ k a D i, x = .ref a ∧ y = .str k ∧ Tab K a D ∧ tabAt k D = some i ∧ Q (.int i) H
theorem plain_tab : ∀ D : List (Str × Int), ((D.map fun p => (p.1, KTD.Dat.flat (.int p.2))).all fun p => KTD.plain p.2) = true := by
  intro D
  induction D with
  | nil => rfl
  | cons p D ih => rw [List.map_cons, List.all_cons, ih]; rfl
theorem ix_tab : IxR X (rIxTab X.K) := by
  intro value slice pins s σ H x y v u Q I rx ry h hs
  obtain ⟨k, a, D, i, rfl, rfl, hT, hi, q⟩ := h
  cases rx
  obtain ⟨t, rfl⟩ := ry
  have T : KTD.Here s.heap s.heap a (D.map fun p => (p.1, KTD.Dat.flat (.int p.2))) := ⟨PySem.W.kt_text_in I.kIn hT, fun _ _ z => z⟩
  refine subscriptTail_builtin_flat T.typeIs slot_dict_getitem.lookup ?_ hs
  unfold getItem
  try with_reducible refine wpAny_holding ?_
  refine wpAny_bind (wpAny_sequenceKey T.typeIs (by decide) ?_)
  refine wpAny_bind (wpAny_callSpecial?_slot (name := Str.ofString "__getitem__") T.typeIs slot_dict_getitem
    (wpAny_call_entry slot_dict_getitem T.typeIs entry_dict_getitem ?_ (args_dict_getitem _ _)))
  show wpAny _ _ (dictGet a (.str k t) >>= _) _ _ s
  refine wpAny_bind (KTD.dictGet_text T (fun d v ha hv => wpAny_pure ⟨v, rfl, wpAny_pure ⟨KTD.notRef_of_plain (KTD.plain_at (plain_tab D) ha) hv, ?_⟩⟩) fun hn => absurd hn (KTD.at_of_mem (by rw [tab_keys]; show (tabAt k D).isSome = true; rw [hi]; rfl)))
  obtain ⟨i', e1, rfl⟩ := tab_datum D ha
  have e2 : i' = i := by
    have e3 : KTD.datumAt k D = some i := hi
    rw [e3] at e1
    exact (Option.some.inj e1).symm
  subst e2
  have hv' : PyProof.V.Flat v (.int i') := hv
  obtain ⟨t', rfl⟩ := hv'.int_inv
  exact ⟨.int i', H, I.tok _, ⟨_, rfl⟩, q⟩
end
theorem ints_items : ∀ {ns : List Int} {us : List Value}, Vals (ns.map V.int) us → ∃ xs : Array (Int × Tok), us.toArray = intItems xs ∧ xs.toList.map (·.1) = ns
  | [], [], _ => ⟨#[], by simp [intItems], rfl⟩
  | n :: ns, u :: us, r => by
    cases r with
    | cons r1 r2 =>
      obtain ⟨t, rfl⟩ := r1
      obtain ⟨xs, e1, e2⟩ := ints_items r2
      refine ⟨((n, t) :: xs.toList).toArray, ?_, ?_⟩
      · have e3 : us = (intItems xs).toList := by rw [← e1]
        rw [e3]
        simp [intItems]
      · simp [e2]
def rBest (K : PySem.W.Frag) (le : Int → Int → Prop) : List V → Hp → VK → Prop := fun xs H Q => ∃ (p : Addr) (ns : List Int), xs = [.ref p] ∧ (SqL K H p (ns.map V.int) ∨ SqT K H p (ns.map V.int)) ∧ 0 < ns.length ∧ ∀ M, M ∈ ns → (∀ a ∈ ns, le a M) → Q (.int M) H
section
variable {X : Cx} {s : Shared} {A : Around} {E : Value → Shared → Prop}
theorem best_fin {pins : List (Addr × Obj)} {σ : St} {H : Hp} {Q : VK} {ns : List Int} {xs : Array (Int × Tok)} {num : Nat → Nat → Bool} {le : Int → Int → Prop} (I : Inv X pins σ H s) (ex : xs.toList.map (·.1) = ns) (hne : 0 < ns.length)
    (hb : argBest num (xs.size - 1) ≤ xs.size - 1 ∧ ∀ j, j ≤ xs.size - 1 → le (numAt xs j) (numAt xs (argBest num (xs.size - 1)))) (q : ∀ M, M ∈ ns → (∀ a ∈ ns, le a M) → Q (.int M) H)
    {v : Value} {h' : Heap} {tk : Nat} (hv : (intItems xs)[argBest num (xs.size - 1)]? = some v) (hk : ∀ b o, s.heap.get? b = some o → h'.get? b = some o) : EP X pins σ Q v { s with heap := h', toks := tk } := by
  obtain ⟨t, rfl⟩ := intItems_at hv
  have hsz : 0 < xs.size := by
    rw [← ex, List.length_map, Array.length_toList] at hne
    exact hne
  refine ⟨.int _, H, I.kept hk, ⟨_, rfl⟩, q _ ?_ fun a ha => ?_⟩
  · rw [← ex, numAt_eq]; exact getD_mem (by rw [List.length_map, Array.length_toList]; omega)
  · rw [← ex] at ha
    obtain ⟨j, hj, rfl⟩ := mem_getD ha
    rw [List.length_map, Array.length_toList] at hj
    rw [← numAt_eq]; exact hb.2 j (by omega)
theorem tup_kept {l : Addr} {xs : Array (Int × Tok)} (hT : s.heap.IsTuple l (intItems xs)) {h' : Heap} (hk : ∀ b o, b ∉ [s.heap.objs.size] → (s.heap.push { cls := .type "tuple_iterator", data := .fields #[.ref l, .int 0 0] }).get? b = some o → h'.get? b = some o) :
    ∀ b o, s.heap.get? b = some o → h'.get? b = some o := fun b o e => by
  refine hk b o (fun hm => ?_) (Heap.get?_push_of_some _ e)
  rcases List.mem_cons.mp hm with e1 | hm
  · exact absurd (e1 ▸ Heap.lt_size e) (Nat.lt_irrefl _)
  · cases hm
theorem best_pre {ns : List Int} {xs : Array (Int × Tok)} (ex : xs.toList.map (·.1) = ns) (hne : 0 < ns.length) : 0 < xs.size := by
  rw [← ex, List.length_map, Array.length_toList] at hne
  exact hne
theorem call_maxL (hc : X.calm = true) : CallR X (.builtin "max") (rBest X.K fun a M => a ≤ M) := by
  intro pins s σ H xs us Q I r h
  obtain ⟨p, ns, rfl, hs, hne, q⟩ := h
  obtain ⟨u, rfl, ru⟩ := vals1 r
  cases ru
  rcases hs with hs | hs
  · obtain ⟨its, ri, pl, _⟩ := I.list hs
    obtain ⟨xs, e1, e2⟩ := ints_items ri
    have hl : s.heap.IsList p (intItems xs) := by rw [← e1]; exact pl.isList
    exact max_intList (I.ok.hd hc) hl (best_pre e2 hne) fun v h' tk hv hk => best_fin I e2 hne (argBest_gt (numAt xs) (xs.size - 1)) q hv hk
  · obtain ⟨its, ri, pl, _⟩ := I.tuple hs
    obtain ⟨xs, e1, e2⟩ := ints_items ri
    have hT : s.heap.IsTuple p (intItems xs) := by rw [← e1]; exact pl
    have hlt : p < s.heap.objs.size := by obtain ⟨_, e, _⟩ := hT; exact Heap.lt_size e
    refine call_max_walk (wpAny_pyIter_tuple hT ?_)
    refine ⟨_, [_, p], [_], _, _, _, _, rfl, Walks.tuple (A := X.A.in1) (I.ok.hd hc) _ p (Nat.ne_of_lt hlt) (intItems xs), ⟨⟨_, Heap.get?_push_size _ rfl, rfl, rfl⟩, hT.push _⟩, fun c hc' => ?_,
      by simpa [intItems] using best_pre e2 hne, CmpOf.ints_gt (numAt xs) (fun _ _ => intItems_at), fun v h' tk hP hk => ?_⟩
    · show c < (s.heap.push _).objs.size
      rw [Heap.size_push]
      rcases List.mem_cons.mp hc' with rfl | hc'
      · exact Nat.lt_succ_self _
      · rcases List.mem_cons.mp hc' with rfl | hc'
        · exact Nat.lt_succ_of_lt hlt
        · cases hc'
    · exact best_fin I e2 hne (argBest_gt (numAt xs) (xs.size - 1)) q (by simpa [intItems] using hP) (tup_kept hT hk)
theorem call_minL (hc : X.calm = true) : CallR X (.builtin "min") (rBest X.K fun a M => M ≤ a) := by
  intro pins s σ H xs us Q I r h
  obtain ⟨p, ns, rfl, hs, hne, q⟩ := h
  obtain ⟨u, rfl, ru⟩ := vals1 r
  cases ru
  rcases hs with hs | hs
  · obtain ⟨its, ri, pl, _⟩ := I.list hs
    obtain ⟨xs, e1, e2⟩ := ints_items ri
    have hl : s.heap.IsList p (intItems xs) := by rw [← e1]; exact pl.isList
    exact min_intList (I.ok.hd hc) hl (best_pre e2 hne) fun v h' tk hv hk => best_fin (le := fun a M => M ≤ a) I e2 hne (argBest_lt (numAt xs) (xs.size - 1)) q hv hk
  · obtain ⟨its, ri, pl, _⟩ := I.tuple hs
    obtain ⟨xs, e1, e2⟩ := ints_items ri
    have hT : s.heap.IsTuple p (intItems xs) := by rw [← e1]; exact pl
    have hlt : p < s.heap.objs.size := by obtain ⟨_, e, _⟩ := hT; exact Heap.lt_size e
    refine call_min_walk (wpAny_pyIter_tuple hT ?_)
    refine ⟨_, [_, p], [_], _, _, _, _, rfl, Walks.tuple (A := X.A.in1) (I.ok.hd hc) _ p (Nat.ne_of_lt hlt) (intItems xs), ⟨⟨_, Heap.get?_push_size _ rfl, rfl, rfl⟩, hT.push _⟩, fun c hc' => ?_,
      by simpa [intItems] using best_pre e2 hne, CmpOf.ints_lt (numAt xs) (fun _ _ => intItems_at), fun v h' tk hP hk => ?_⟩
    · show c < (s.heap.push _).objs.size
      rw [Heap.size_push]
      rcases List.mem_cons.mp hc' with rfl | hc'
      · exact Nat.lt_succ_self _
      · rcases List.mem_cons.mp hc' with rfl | hc'
        · exact Nat.lt_succ_of_lt hlt
        · cases hc'
    · exact best_fin (le := fun a M => M ≤ a) I e2 hne (argBest_lt (numAt xs) (xs.size - 1)) q (by simpa [intItems] using hP) (tup_kept hT hk)
end
def tMethD {ι : Type} (CD : ι → Addr) (spm : ι → Sp) (m : Str) (E : XK) (ta : TE) (t : TA) : TE := fun σ H Q => ta σ H fun x H1 => ∃ a d dx fs, x = .ref a ∧ H1 a = some (.ins (CD d) dx fs) ∧ fs.lookup m = none ∧ t σ H1 fun vs H2 => spm d (x :: vs) H2 Q E
section
variable {X : Cx} {CX : CXT} {j k : Nat} {ι : Type} {CD : ι → Addr} {spm : ι → Sp} {ps : List Str} {E : XK} {m : Str} {pos apos : Pos} {e o : Expr} {es : List Expr} {ta : TE} {t : TA}
theorem pe_md {pl : Sem Bool} (hM : ∀ d, MCal X.prog X.w X.K X.mg X.base CX k (CD d) m ps (spm d)) (hr : Room j X.A) (hx : Passes CX X E) (he : PE X o ta) (ha : PA X (e :: es) t) (hk : k ≤ j := by decide)
    (hst : starEach (e :: es) X.env = (false, eval e X.env) :: starEach es X.env := by rfl) (hpl : (backTo pos (starEach es X.env)).any (·.1) = false := by rfl)
    (ht : eval (.Call (.Attribute o m apos) (e :: es) [] pos) X.env = (do
      let ov ← eval o X.env
      standAt apos.atName
      let (f, first) ← holding [ov] (getMethod ov m pl)
      callWith pos f first (backTo pos (starEach (e :: es) X.env)) (backToKw pos (keywordEach [] X.env))) := by rfl) :
    PE X (.Call (.Attribute o m apos) (e :: es) [] pos) (tMethD CD spm m E ta t) := by
  intro pins s σ H Q I h
  refine PySem.W.methodCall_KW (pl := pl) (thn (he pins s σ H _ I h) fun u s1 ⟨x, H1, I1, rx, a, d, dx, fs, ex, ea, l, q⟩ => ?_) ht
  subst ex
  obtain rfl : u = Value.ref a := rx
  have M := hM d
  obtain ⟨f, fd, hm, F, b⟩ := M.ex
  refine getmeth_ok I1 ea M.cl hm l ?_
  refine PySem.W.callWith_K (first := [.ref a]) (h₀ := X.base) I.ok.mod.kin hm.kp (thn (ha pos pins s1 σ H1 _ I1 q) fun us s2 ⟨vs, H2, I2, r, q2⟩ => ⟨I2.kIn, ?_⟩) hst hpl
  exact run_fn (us := .ref a :: us) (vs := .ref a :: vs) (dvs := []) F (hr.mono hk) b .nil hx I2 (.cons rfl r) (by rw [List.append_nil]; exact q2)
theorem pe_md0 {pl : Sem Bool} (hM : ∀ d, MCal X.prog X.w X.K X.mg X.base CX k (CD d) m ps (spm d)) (hr : Room j X.A) (hx : Passes CX X E) (he : PE X o ta) (hk : k ≤ j := by decide)
    (ht : eval (.Call (.Attribute o m apos) [] [] pos) X.env = (do
      let ov ← eval o X.env
      standAt apos.atName
      let (f, first) ← holding [ov] (getMethod ov m pl)
      callWith pos f first (backTo pos (starEach [] X.env)) (backToKw pos (keywordEach [] X.env))) := by rfl) :
    PE X (.Call (.Attribute o m apos) [] [] pos) (tMethD CD spm m E ta tNil) := by
  intro pins s σ H Q I h
  refine PySem.W.methodCall_KW (pl := pl) (thn (he pins s σ H _ I h) fun u s1 ⟨x, H1, I1, rx, a, d, dx, fs, ex, ea, l, q⟩ => ?_) ht
  subst ex
  obtain rfl : u = Value.ref a := rx
  have M := hM d
  obtain ⟨f, fd, hm, F, b⟩ := M.ex
  refine getmeth_ok I1 ea M.cl hm l ?_
  exact PySem.W.callWith_K0 (first := [.ref a]) I1.kIn hm.kp (run_fn (us := [.ref a]) (vs := [.ref a]) (dvs := []) F (hr.mono hk) b .nil hx I1 (.cons rfl .nil) q)
end
structure TyC (K : PySem.W.Frag) (C : Addr) : Prop where
  ca : PySem.W.findIn K (.ref C) "__class__" = some (some (.builtin "object.__class__"))
  cg : PySem.W.specialIn K (.builtin "object.__class__") "__get__" = some (some (.builtin "getset_descriptor.__get__"))
  tk : PySem.W.takesIn K (.builtin "object.__class__") = some true
  mo : PySem.W.mroIn K C (.type "object") = some true
theorem TyC.ty {K : PySem.W.Frag} {C a dx : Addr} {H : Hp} {fs : List (Str × V)} (t : TyC K C) (c : Cls K C) (e : H a = some (.ins C dx fs)) : TyOf K H (.ref a) (.ref C) := .ins e c t.ca t.cg t.tk t.mo
section
variable {X : Cx}
theorem call_isi' {c : V} {cv : Value} (hc : ∀ u, RelV c u → u = cv) : CallR X (.builtin "isinstance") (rIsi X.K c cv) := by
  intro pins s σ H xs us Q I r h
  obtain ⟨x, t, b, rfl, ty, e, q⟩ := h
  obtain ⟨u, w', rfl, ru, rw'⟩ := Vals.two r
  cases hc w' rw'
  exact isinst_ok I ru ty e fun tk => ⟨.bl b, H, I.tok tk, rfl, q⟩
theorem pe_isD {x : Str} {C : Addr} {p p2 pos : Pos} {e : Expr} {te : TE} (hg : Gl X "isinstance") (hm : X.mg "isinstance" = none) (he : PE X e te) (hmC : X.mg x = some (.ref C)) (hgT : Gl X x := by rfl) (hd : (x == ("__debug__" : Str)) = false := by decide)
    (h1 : starEach [e, .Name x p2] X.env = (false, eval e X.env) :: starEach [.Name x p2] X.env := by rfl) (h2 : (backTo pos (starEach [.Name x p2] X.env)).any (·.1) = false := by rfl) :
    PE X (.Call (.Name "isinstance" p) [e, .Name x p2] [] pos) (tCB (rIsi X.K (.ref C) (.ref C)) (tCons te (tCons (tC (.ref C)) tNil))) :=
  pe_callB (call_isi' fun u hu => hu) hg hm boot_isinstance (pa_cons he (pa_cons (pe_glob hgT hmC rfl hd) pa_nil) h1) (by decide) (by decide) h1 h2
end
theorem boot_max : bootBuiltins "max" = some (.builtin "max") := by decide +kernel
theorem boot_min : bootBuiltins "min" = some (.builtin "min") := by decide +kernel
section
variable {K : PySem.W.Frag} {H : Hp} {Q : VK} {σ : St} {D : Ends} {te ta tv : TE} {tA : TA} {f m : Str} {a C dx : Addr} {fs : List (Str × V)} {v : V}
def rFld (K : PySem.W.Frag) (f : Str) (x : V) (H1 : Hp) (Q : VK) : Prop := ∃ a C dx fs v, x = .ref a ∧ H1 a = some (.ins C dx fs) ∧ Cls K C ∧ NoAttr K C f ∧ fs.lookup f = some v ∧ Q v H1
theorem st_fld (h : ta σ H fun x H1 => rFld K f x H1 Q) : tFld K ta f σ H Q := h
theorem st_fld1 (e : H a = some (.ins C dx fs)) (c : Cls K C) (n : NoAttr K C f) (l : fs.lookup f = some v) (q : Q v H) : rFld K f (.ref a) H Q := ⟨a, C, dx, fs, v, rfl, e, c, n, l, q⟩
def rPut (K : PySem.W.Frag) (f : Str) (D : Ends) (σ : St) (y x : V) (H2 : Hp) : Prop := ∃ a C dx fs, x = .ref a ∧ H2 a = some (.ins C dx fs) ∧ Cls K C ∧ NoAttr K C f ∧ fs.length < 1000 ∧ D.nx σ (upd H2 a (.ins C dx (putF f y fs)))
theorem st_put (h : tv σ H fun y H1 => ta σ H1 fun x H2 => rPut K f D σ y x H2) : sFld K ta tv f D σ H := h
theorem st_put1 {y : V} (e : H a = some (.ins C dx fs)) (c : Cls K C) (n : NoAttr K C f) (l : fs.length < 1000) (q : D.nx σ (upd H a (.ins C dx (putF f y fs)))) : rPut K f D σ y (.ref a) H := ⟨a, C, dx, fs, rfl, e, c, n, l, q⟩
theorem st_make {sp : Sp} {dvs : List V} {E : XK} (h : tA σ H fun vs H1 => ∀ x dx, H1 x = none → H1 dx = none → dx ≠ x → sp (.ref x :: (vs ++ dvs)) (upd (upd H1 dx (.own x)) x (.ins C dx [])) (fun v H2 => v = .non ∧ Q (.ref x) H2) E) : tMake C sp dvs E tA σ H Q := h
def rMeth {ι : Type} (CD : ι → Addr) (m : Str) (x : V) (H1 : Hp) (R : ι → Prop) : Prop := ∃ a d dx fs, x = .ref a ∧ H1 a = some (.ins (CD d) dx fs) ∧ fs.lookup m = none ∧ R d
theorem st_md {ι : Type} {CD : ι → Addr} {spm : ι → Sp} {E : XK} (h : ta σ H fun x H1 => rMeth CD m x H1 fun d => tA σ H1 fun vs H2 => spm d (x :: vs) H2 Q E) : tMethD CD spm m E ta tA σ H Q := h
theorem st_md1 {ι : Type} {CD : ι → Addr} {R : ι → Prop} {d : ι} (e : H a = some (.ins (CD d) dx fs)) (l : fs.lookup m = none) (q : R d) : rMeth CD m (.ref a) H R := ⟨a, d, dx, fs, rfl, e, l, q⟩
end
theorem same_made {H : Hp} {x dx C : Addr} (hx : H x = none) (hd : H dx = none) : Same H (upd (upd H dx (.own x)) x (.ins C dx [])) := fun b o e => by
  rw [upd_ne (ne_of_none e hx), upd_ne (ne_of_none e hd)]
  exact e
end L2

set_option Elab.async false
set_option linter.all false
set_option maxRecDepth 100000
namespace L2
open PySem PySem.Spec PyProof.Rows
structure CpScope2 (sc : Scope) (x x2 : Str) (scope : Scope) : Prop where
  kind : scope.kind = .function
  cell : ∀ y ∈ scope.names, y.2 ≠ .cell
  own : scope.names.lookup x = some .local
  own2 : scope.names.lookup x2 = some .local
  loc : ∀ y ∈ scope.names, y.2 = .local → y.1 = x ∨ y.1 = x2 ∨ y.1 = (".0" : Str)
  nam : ∀ y ∈ scope.names, y.2 = .local → scope.names.lookup y.1 = some .local
  free : ∀ y ∈ scope.names, y.2 = .free → sc.names.lookup y.1 = some .cell ∨ sc.names.lookup y.1 = some .free
  two : ∀ y ∈ scope.names, y.2 = .free → y.1 ≠ x ∧ y.1 ≠ x2
def Cx.comp2 (X : Cx) (M : List Str) (scope : Scope) (x x2 : Str) (C : Addr) (s : Shared) (H : Hp) (ex : List Addr) : Cx :=
  { X with N := x :: x2 :: M, s₀ := s, H₀ := H, env := compEnvC scope (clGo X.env scope.names []) C X.env, outer := X.stack, ex := ex, fn := fun _ => false, pn := [], xe := fun _ _ => False }
section
variable {X : Cx} {M : List Str} {pins : List (Addr × Obj)} {σ : St} {H : Hp} {s : Shared} {scope : Scope} {x x2 : Str}
theorem CpScope2.has (S : CpScope2 X.env.scope x x2 scope) (ok : X.Ok) : ∀ p ∈ scope.names, p.2 = .free → ∃ c, X.env.cells.lookup p.1 = some c := fun p hp e => ok.has p.1 (S.free p hp e)
theorem CpScope2.cells (S : CpScope2 X.env.scope x x2 scope) (ok : X.Ok) {y : Str} {c : Addr} (e : (clGo X.env scope.names []).lookup y = some c) : X.env.cells.lookup y = some c := by
  rcases clGo_lookup X.env scope.names [] (S.has ok) c e with z | z
  · cases z
  · exact z
theorem CpScope2.sees (S : CpScope2 X.env.scope x x2 scope) {y : Str} (hy : (relabel scope X.env).names.lookup y ≠ some .local) (hv : Vis (relabel scope X.env) y) : (y, NameKind.free) ∈ scope.names ∧ ((relabel scope X.env).names.lookup y = some .cell ∨ (relabel scope X.env).names.lookup y = some .free) := by
  unfold Vis at hv
  rw [relabel_kind] at hv ⊢
  cases e : scope.names.lookup y with
  | none => rw [e] at hv; rcases hv with z | z | z <;> cases z
  | some k =>
    have hm := mem_of_lookup e
    rw [e] at hv
    have hk : k = .free := by
      by_cases hf : k = .free
      · exact hf
      · have hr : rlb X.env y k = k := by
          unfold rlb
          have : (k == NameKind.free) = false := by simpa using hf
          rw [this]; rfl
        rw [Option.map_some, hr] at hv
        rcases hv with z | z | z
        · rw [relabel_kind, e, Option.map_some, hr] at hy
          exact absurd z hy
        · exact absurd (Option.some.inj z) (S.cell _ hm)
        · exact Option.some.inj z
    subst hk
    refine ⟨hm, ?_⟩
    rw [Option.map_some]
    unfold rlb
    split
    · exact .inl rfl
    · exact .inr rfl
theorem CpScope2.ok (S : CpScope2 X.env.scope x x2 scope) (I : Inv X pins σ H s) {C : Addr} (hC : s.heap.objs.size ≤ C) {fp : List Addr} (hf : ∀ b ∈ fp, FpOk X pins H b) (hl : ∀ b ∈ fp, b < s.heap.objs.size) : (X.comp2 M scope x x2 C s H fp).Ok where
  mod := I.ok.mod
  kind := S.kind
  glob := I.ok.glob
  blt := I.ok.blt
  above := hC
  inj := fun y z c e1 e2 => I.ok.inj y z c (S.cells I.ok e1) (S.cells I.ok e2)
  has := fun y hy => by
    have hv : Vis (relabel scope X.env) y := .inr hy
    have hne : (relabel scope X.env).names.lookup y ≠ some .local := fun e => by
      have hy' : (relabel scope X.env).names.lookup y = some .cell ∨ (relabel scope X.env).names.lookup y = some .free := hy
      rw [e] at hy'
      rcases hy' with q | q <;> cases q
    exact clGo_has X.env scope.names [] (.inl (S.sees hne hv).1)
  cab := fun _ _ z => nomatch z
  hd := I.ok.hd
  frames := I.ok.frames
  stk := .inl rfl
  exf := fun b hb => ⟨fun z => by
      have h1 := hl b hb
      have z' : b = C := z
      rw [z'] at h1
      exact Nat.not_le.mpr h1 hC, fun y c e => (hf b hb).2.2.2.2.1 y c (S.cells I.ok e)⟩
  bs := I.bs
  bsz := Nat.le_trans I.ok.bsz I.sz
  noex := fun b o e hb => by
    rcases (hf b hb).2.2.2.1 with z | z
    · exact I.ok.noex b o e z
    · have h1 := Heap.lt_size e
      have h2 := I.ok.bsz
      exact absurd (Nat.lt_of_lt_of_le (Nat.lt_of_lt_of_le h1 h2) z) (Nat.lt_irrefl _)
  exfs := fun b hb z => by
    rcases List.mem_cons.mp (I.stkSub b z) with q | q
    · exact (hf b hb).2.1 q
    · exact (hf b hb).2.2.1 q
  funs := I.stack
  frf := I.stkFree
theorem CpScope2.inv (S : CpScope2 X.env.scope x x2 scope) (hx : x ∉ M) (hx2 : x2 ∉ M) (hxx : x ≠ x2) (h0 : (".0" : Str) ∉ M) (hlen : M.length = X.N.length) (hM : ∀ (j : Nat) y, M[j]? = some y → X.N[j]? = some y ∨ scope.names.lookup y = none) (I : Inv X pins σ H s) {C : Addr} (hC : s.heap.objs.size ≤ C) {fp : List Addr} (hf : ∀ b ∈ fp, FpOk X pins H b) (hl : ∀ b ∈ fp, b < s.heap.objs.size) {h1 : Heap} {t1 : Nat}
    (old : ∀ b o, s.heap.get? b = some o → h1.get? b = some o) {m : Str → Option Value} (ns : h1.Ns C m) : Inv (X.comp2 M scope x x2 C s H fp) [] (none :: none :: σ) H { s with heap := h1, toks := t1 } where
  ok := S.ok I hC hf hl
  os := rfl
  bare := I.bare
  base := Un.kept old
  loc := by
    refine ⟨m, ns, fun i y v e1 e2 hv => ?_⟩
    match i, e1, e2 with
    | 0, _, e2 => cases e2
    | 1, _, e2 => cases e2
    | j + 2, e1, e2 =>
      have e1' : M[j]? = some y := by simpa [Cx.comp2] using e1
      have e2' : σ[j]? = some (some v) := by simpa using e2
      by_cases hy : (relabel scope X.env).names.lookup y = some .local
      · exfalso
        rw [relabel_kind] at hy
        cases e : scope.names.lookup y with
        | none => rw [e] at hy; cases hy
        | some k =>
          rw [e, Option.map_some] at hy
          have hk : k = .local := by
            have hy' := Option.some.inj hy
            unfold rlb at hy'
            split at hy'
            · cases hy'
            · exact hy'
          rcases S.loc _ (mem_of_lookup e) hk with z | z | z
          · have z' : y = x := z
            subst z'; exact hx (List.mem_of_getElem? e1')
          · have z' : y = x2 := z
            subst z'; exact hx2 (List.mem_of_getElem? e1')
          · have z' : y = (".0" : Str) := z
            subst z'; exact h0 (List.mem_of_getElem? e1')
      · obtain ⟨hm, hk⟩ := S.sees hy hv
        obtain ⟨m0, _, hl0⟩ := I.loc
        have hx0 : Vis X.env.scope y := .inr (S.free _ hm rfl)
        have e1' : X.N[j]? = some y := by
          rcases hM j y e1' with z | z
          · exact z
          · exfalso
            unfold Vis at hv
            have hv' : (relabel scope X.env).names.lookup y = some .local ∨ (relabel scope X.env).names.lookup y = some .cell ∨ (relabel scope X.env).names.lookup y = some .free := hv
            rw [relabel_kind, z] at hv'
            rcases hv' with q | q | q <;> cases q
        obtain ⟨u, r, l⟩ := hl0 j y v e1' e2' hx0
        refine ⟨u, r, .inr ⟨hk, ?_⟩⟩
        obtain ⟨c, hc⟩ := clGo_has X.env scope.names [] (.inl hm)
        refine ⟨c, hc, ?_⟩
        have hc0 := S.cells I.ok hc
        rcases l with ⟨k0, _⟩ | ⟨_, c0, e0, q0⟩
        · rcases S.free _ hm rfl with z | z
          · have k0' : X.env.scope.names.lookup y = some .local := k0
            rw [z] at k0'; cases k0'
          · have k0' : X.env.scope.names.lookup y = some .local := k0
            rw [z] at k0'; cases k0'
        · rw [hc0] at e0; cases e0
          obtain ⟨o, ho, hd⟩ := q0
          exact ⟨o, old _ _ ho, hd⟩
  cell := fun y c e => by
    obtain ⟨v, o, ho, hd⟩ := I.cell y c (S.cells I.ok e)
    exact ⟨v, o, old _ _ ho, hd⟩
  free := I.hok.fresh hC
  freeC := fun y c e => I.freeC y c (S.cells I.ok e)
  pin := fun p hp => by cases hp
  hok := I.hok.kept old
  len := by simp [Cx.comp2, I.len, hlen]
end
def tComp2 (K : PySem.W.Frag) (wi : TI) (tt : TT) (te : TE) : TE := fun σ H Q => wi σ H fun J H1 => ∃ W : Nat → Nat → List V → Hp → Prop, (∃ m, W 0 m [] H1) ∧ ∀ i m ys H, W i m ys H →
  (J.stop i H ∧ ∀ p, H p = none → Q (.ref p) (upd H p (.lst ys))) ∨
  (J.go i H ∧ ys.length < sizeLine ∧ ∃ N : List V → Hp → Prop, (∀ ys' H', N ys' H' → ∃ m', m' < m ∧ W (i + 1) m' ys' H') ∧
    ∀ x H', J.yld i H x H' → ∃ a v w, x = .ref a ∧ SqT K H' a [v, w] ∧ tt (some v :: some w :: σ) H' fun b H2 => if b = true then te (some v :: some w :: σ) H2 fun y H3 => N (ys ++ [y]) H3 else N ys H2)
section
variable {X : Cx} {M : List Str} {scope : Scope} {x x2 : Str} {px px2 ptg pos : Pos} {tk : Nat} {elt iter : Expr} {ifs : List Expr} {wi : TI} {tt : TT} {te : TE}
theorem comp_core2 {sc : Scope} {use : Option (Value → Sem Unit)} {QQ : Value → Shared → Prop} {Q : VK} {pins : List (Addr × Obj)} {s : Shared} {σ : St} {H : Hp} {cpos : Pos} (hsc : X.env.scope = sc) (S : CpScope2 sc x x2 scope) (hx : x ∉ M) (hx2 : x2 ∉ M) (hxx : x ≠ x2) (h0 : (".0" : Str) ∉ M) (hN : M.Nodup) (hlen : M.length = X.N.length) (hM : ∀ (j : Nat) y, M[j]? = some y → X.N[j]? = some y ∨ scope.names.lookup y = none) (hc : X.calm = true) (hi : PI X (.Tuple [.Name x px, .Name x2 px2] tk ptg) iter wi)
    (ht : ∀ C s H ex, PIfs (X.comp2 M scope x x2 C s H ex) ifs tt) (he : ∀ C s H ex, PE (X.comp2 M scope x x2 C s H ex) elt te) (I : Inv X pins σ H s) (h : tComp2 X.K wi tt te σ H Q)
    (fin : ∀ (D C : Addr) (s4 : Shared) (H4 : Hp), C ≠ X.env.locals → (∀ y c, X.env.cells.lookup y = some c → c ≠ C) → (∀ p ∈ X.pn ++ pins, p.1 ≠ C) → X.s₀.heap.objs.size ≤ C → H4 C = none → (∃ m, s4.heap.Ns C m) →
      (∀ h', Heap.SameBut C s4.heap h' → Inv X pins σ H4 { s4 with heap := h' }) → Q (.ref D) H4 → compPost (model X.prog X.w) X.A X.xe use QQ (.ref D) C (.ok .next) s4)
    (hs : ∀ v, foldedSetIterable iter X.env v = pure v) :
    wpAny (model X.prog X.w) X.A (comprehension (.ListComp elt [⟨.Tuple [.Name x px, .Name x2 px2] tk ptg, iter, ifs, 0⟩] scope pos) scope X.env cpos (newList []) false (eval iter X.env) use) QQ X.xe s := by
  subst hsc
  have hnames := S.nam
  refine wpAny_comprehension_free (use := use) rfl hs (closure_is (S.has I.ok)) S.kind hnames (thn (hi pins s σ H _ I h) fun v s1 h1 => thn h1 fun itv s2 h2 => ?_)
  obtain ⟨it, fp, tn, J, H2, e, I2, T, st2, f2, W, ⟨m0, w0⟩, turn⟩ := h2
  subst e
  refine wpAny_newObj_type (wpAny_newFunctionEnv S.cell (by intro y hy; simp at hy) (fun h₁ hns₁ hsb₁ => ?_) S.kind)
  dsimp only at hns₁ hsb₁ ⊢
  generalize hG : s2.heap.push { cls := .type "list", dict := none, data := .seq ([] : List Value).toArray } = G at hns₁ hsb₁ ⊢
  have hC : G.objs.size = s2.heap.objs.size + 1 := by rw [← hG, Heap.size_push]
  have hDC : s2.heap.objs.size ≠ G.objs.size := by omega
  have below : ∀ b, b < s2.heap.objs.size → b ≠ G.objs.size ∧ b ≠ s2.heap.objs.size := fun b hb => ⟨by omega, by omega⟩
  have old : ∀ b o, s2.heap.get? b = some o → h₁.get? b = some o := fun b o e => hsb₁.extBut b o (below b (Heap.lt_size e)).1 (Heap.get?_push_of_some _ (hG ▸ Heap.get?_push_of_some _ e))
  have hacc : h₁.get? s2.heap.objs.size = some { cls := .type "list", data := .seq ([] : List Value).toArray } := hsb₁.extBut _ _ hDC (Heap.get?_push_of_some _ (hG ▸ Heap.get?_push_size _ rfl))
  have hlt : ∀ b ∈ fp, b < s2.heap.objs.size := fun b hb => by
    obtain ⟨o, e, _⟩ := T.obj _ _ st2 b hb
    exact Heap.lt_size e
  have ctop : ∀ y c, (clGo X.env scope.names []).lookup y = some c → c < s2.heap.objs.size := fun y c e => by
    obtain ⟨v, q⟩ := I2.cell y c (S.cells I2.ok e)
    exact q.lt
  have hCle : s2.heap.objs.size ≤ G.objs.size := by omega
  have IY : ∀ t1, Inv (X.comp2 M scope x x2 G.objs.size s2 H2 fp) [] (none :: none :: σ) H2 { s2 with heap := h₁, toks := t1 } := fun t1 => S.inv hx hx2 hxx h0 hlen hM I2 hCle f2 hlt old hns₁
  have nost : ∀ b, s2.heap.objs.size ≤ b → b ∉ frs X.stack := fun b hb z => by
    rcases List.mem_cons.mp (I2.stkSub b z) with q | q
    · exact Nat.not_le.mpr I2.lt (q ▸ hb)
    · exact I2.nofs hb q
  have hD : s2.heap.objs.size ∉ frs X.stack := nost _ (Nat.le_refl _)
  have ptop : ∀ {pl : List (Addr × Obj)} {H' : Hp}, (∀ b ∈ fp, H' b = none) → (∀ p ∈ pl, p.1 ∉ fp) → ∀ b ∈ fp, FpOk (X.comp2 M scope x x2 G.objs.size s2 H2 fp) pl H' b := fun {pl H'} hn hp b hb =>
    ⟨hn b hb, fun z => (below b (hlt b hb)).1 z, fun z => (S.ok I2 hCle f2 hlt).exfs b hb z, .inl hb, fun y c e => (f2 b hb).2.2.2.2.1 y c (S.cells I2.ok e), fun p hp' z => hp p hp' (z ▸ hb)⟩
  have Dfp : s2.heap.objs.size ∉ fp := fun z => Nat.lt_irrefl _ (hlt _ z)
  have loop : ∀ t1, codeAny (model X.prog X.w) X.A (.compLoop (.ListComp elt [⟨.Tuple [.Name x px, .Name x2 px2] tk ptg, iter, ifs, 0⟩] scope pos) 0 (.ref it) (.ref s2.heap.objs.size) (compEnvC scope (clGo X.env scope.names []) G.objs.size X.env))
      (compPost (model X.prog X.w) X.A X.xe use QQ (.ref s2.heap.objs.size) G.objs.size) { s2 with heap := h₁, toks := t1 } := by
    intro t1
    refine compLoop_any (fun n s' => ∃ i o o2 H' ys its k, Inv (X.comp2 M scope x x2 G.objs.size s2 H2 fp) [(s2.heap.objs.size, { cls := .type "list", data := .seq its k })] (o :: o2 :: σ) H' s' ∧ tn i s'.heap ∧ (∀ b ∈ fp, H' b = none) ∧ Vals ys its.toList ∧ ys.length ≤ sizeLine ∧ W i n ys H')
      ?_ m0 ⟨0, none, none, H2, [], #[], 0, ?_, T.keep _ _ _ st2 fun b _ o e => old b o e, fun b hb => (f2 b hb).1, .nil, Nat.zero_le _, w0⟩
    · rintro n s3 ⟨i, o, o2, H3, ys, its, k, I3, st3, fr3, vs3, z3, w3⟩
      have pD : ∀ p ∈ [(s2.heap.objs.size, ({ cls := .type "list", data := .seq its k } : Obj))], p.1 ∉ fp := fun p hp => by
        have e : p = _ := List.mem_singleton.mp hp
        subst e; exact Dfp
      rcases turn i n ys H3 w3 with ⟨stop, qn⟩ | ⟨go, hz, N, hN', step⟩
      · refine wpAny_mono (T.done (X.comp2 M scope x x2 G.objs.size s2 H2 fp) rfl rfl rfl hc i _ s3 (o :: o2 :: σ) H3 (fun _ _ => False) I3 (ptop fr3 pD) st3 stop) (fun r s4 ⟨hr, I4⟩ => ?_) fun _ _ f => f
        subst hr
        obtain ⟨m4, hn4, _⟩ := I4.loc
        obtain ⟨eD, nD, _⟩ := I4.pin _ (List.mem_singleton.mpr rfl)
        have nC : H3 G.objs.size = none := I4.free
        refine fin s2.heap.objs.size G.objs.size s4 (upd H3 s2.heap.objs.size (.lst ys)) (fun z => Nat.not_le.mpr I2.lt (z ▸ hCle)) (fun y c e z => ?_) (fun p hp z => ?_) (Nat.le_trans I2.sz hCle) (by rw [upd_ne (Ne.symm hDC)]; exact nC) ⟨m4, hn4⟩ (fun h' hs' => ?_) (qn _ nD)
        · obtain ⟨v, q⟩ := I2.cell y c e
          exact Nat.not_le.mpr q.lt (z ▸ hCle)
        · exact Nat.not_le.mpr (Heap.lt_size (I2.pin p hp).1) (z ▸ hCle)
        have eD' : h'.get? s2.heap.objs.size = some { cls := .type "list", data := .seq its k } := hs'.extBut _ _ hDC eD
        have stp : ∀ b o, s2.heap.get? b = some o → b ≠ G.objs.size ∧ b ≠ s2.heap.objs.size := fun b o e => below b (Heap.lt_size e)
        have un : Un (frs X.stack) fp H2 (upd H3 s2.heap.objs.size (.lst ys)) s2.heap h' := by
          have B := I4.base
          refine ⟨fun b o e n1 n2 n3 => hs'.extBut _ _ (stp b o e).1 (B.keep b o e n1 n2 n3), fun b o e n1 n2 n3 => ?_, fun b o e n1 n3 => ?_, fun b o e n3 => ?_, fun b xs e => ?_, fun b o u e => ?_, fun b ps e => ?_⟩
          · obtain ⟨sl, q⟩ := B.slot b o e n1 n2 n3
            exact ⟨sl, hs'.extBut _ _ (stp b o e).1 q⟩
          · rw [upd_ne (stp b o e).2]; exact B.free b o e n1 n3
          · obtain ⟨o', q⟩ := B.there b o e n3
            exact ⟨o', hs'.extBut _ _ (stp b o e).1 q⟩
          · have q := B.tups b xs e
            rw [upd_ne (ne_of_none q nD)]; exact q
          · have q := B.frzs b o u e
            rw [upd_ne (ne_of_none q nD)]; exact q
          · obtain ⟨more, q⟩ := B.tbls b ps e
            exact ⟨more, by rw [upd_ne (ne_of_none q nD)]; exact q⟩
        have hok : HOk X.prog X.w (upd H3 s2.heap.objs.size (.lst ys)) h' := fun b u e => by
          by_cases hb : b = s2.heap.objs.size
          · subst hb
            rw [upd_same] at e
            cases e
            exact ⟨z3, its.toList, k, vs3, by simpa using eD'⟩
          · rw [upd_ne hb] at e
            refine (I4.hok b u e).stay (fun c v hc' q => hs'.extBut _ _ (fun z => ?_) q) (fun c q => by rw [upd_ne (ne_of_none q nD)]; exact q) fun c xs q => by rw [upd_ne (ne_of_none q nD)]; exact q
            rcases hc' with r | r
            · rw [r] at z; rw [z, nC] at e; cases e
            · rw [z, nC] at r; cases r
        refine I2.call' (s' := { s4 with heap := h' }) I4.os un hok I4.bare (fun b hb => ?_)
        obtain ⟨f0, f1, f2', f3, f4, f5⟩ := f2 b hb
        exact ⟨f3, f1, f4, f5⟩
      · refine wpAny_mono (T.item (X.comp2 M scope x x2 G.objs.size s2 H2 fp) rfl rfl rfl hc i _ s3 (o :: o2 :: σ) H3 (fun _ _ => False) I3 (ptop fr3 pD) st3 go) (fun r s4 ⟨u, hr, h4⟩ => ?_) fun _ _ f => f
        subst hr
        refine wpAny_mono h4 (fun _ s5 ⟨v5, H5, I5, r5, y5, st5, fr5⟩ => ?_) fun _ _ f => f
        have I5' := I5.pinned (ptop fr5 pD) (T.obj _ _ st5)
        have hnd : (X.comp2 M scope x x2 G.objs.size s2 H2 fp).N.Nodup := List.nodup_cons.mpr ⟨fun z => (List.mem_cons.mp z).elim hxx hx, List.nodup_cons.mpr ⟨hx2, hN⟩⟩
        have hloc : (relabel scope X.env).names.lookup x = some .local := lookup_relabel_local S.own
        have hloc2 : (relabel scope X.env).names.lookup x2 = some .local := lookup_relabel_local S.own2
        obtain ⟨a5, v5a, v5b, e5, sq5, q5⟩ := step v5 H5 y5
        subst e5
        refine wpAny_mono (pg_tup (X := X.comp2 M scope x x2 G.objs.size s2 H2 fp) (pos := ptg) (k := tk) hc (pgs_cons (pg_name (X := X.comp2 M scope x x2 G.objs.size s2 H2 fp) (i := 0) (pos := px) hnd rfl (.inl hloc) (.inr hloc)) (pgs_cons (pg_name (X := X.comp2 M scope x x2 G.objs.size s2 H2 fp) (i := 1) (pos := px2) hnd rfl (.inl hloc2) (.inr hloc2)) pgs_nil)) rfl rfl _ s5 (o :: o2 :: σ) H5 (.ref a5) u (fun σ6 H6 => σ6 = some v5a :: some v5b :: σ ∧ H6 = H5) I5' r5 ⟨a5, [v5a, v5b], rfl, sq5, rfl, v5a, [v5b], rfl, v5b, [], rfl, rfl, rfl, rfl⟩) (fun _ s6 ⟨σ6, H6, I6, e6, e6'⟩ => ?_) fun _ _ f => f
        subst e6 e6'
        have later : ∀ {σ7 : St} {H7 : Hp} {s7 : Shared}, Inv (X.comp2 M scope x x2 G.objs.size s2 H2 fp) ([(s2.heap.objs.size, { cls := .type "list", data := .seq its k })] ++ pinsAt fp s5.heap) σ7 H7 s7 → tn (i + 1) s7.heap ∧ (∀ b ∈ fp, H7 b = none) := fun {σ7 H7 s7} I7 =>
          ⟨T.keep _ _ _ st5 fun b hb o e => (I7.pin (b, o) (List.mem_append_right _ (List.mem_append_right _ (mem_pinsAt hb e)))).1, fun b hb => by
            obtain ⟨o, e, d⟩ := T.obj _ _ st5 b hb
            exact (I7.pin (b, o) (List.mem_append_right _ (List.mem_append_right _ (mem_pinsAt hb e)))).2.1⟩
        refine wpAny_mono (ht _ _ _ _ _ s6 (some v5a :: some v5b :: σ) H6 _ I6 q5) (fun ok s7 ⟨H7, I7, q7⟩ => ?_) fun _ _ f => f
        cases ok with
        | false =>
          obtain ⟨m', hm, w7⟩ := hN' _ _ q7
          exact ⟨m', hm, i + 1, some v5a, some v5b, H7, ys, its, k, I7.unpinned, (later I7).1, (later I7).2, vs3, z3, w7⟩
        | true =>
          refine wpAny_mono (he _ _ _ _ _ s7 (some v5a :: some v5b :: σ) H7 _ I7 q7) (fun uy s8 ⟨y8, H8, I8, r8, q8⟩ => ?_) fun _ _ f => f
          obtain ⟨m', hm, w8⟩ := hN' _ _ q8
          obtain ⟨eD, nD, _⟩ := I8.pin (s2.heap.objs.size, { cls := .type "list", data := .seq its k }) (List.mem_append_right _ (List.mem_append_left _ (List.mem_singleton.mpr rfl)))
          have hsz : its.size ≤ sizeLine := by
            have := vs3.length
            have e2 : its.toList.length = its.size := by simp
            omega
          refine wpAny_list_append_plain (hsz := hsz) ⟨k, eD⟩ fun h9 pl9 sb9 => ?_
          obtain ⟨k9, e9⟩ := pl9
          obtain ⟨st8, fr8⟩ := later I8
          have I8' : Inv (X.comp2 M scope x x2 G.objs.size s2 H2 fp) [] (some v5a :: some v5b :: σ) H8 s8 := I8.pins_of fun p hp => nomatch hp
          have I9 : Inv (X.comp2 M scope x x2 G.objs.size s2 H2 fp) [] (some v5a :: some v5b :: σ) H8 { s8 with heap := h9 } :=
            I8'.turned (t' := s8.toks) (fun b o hb e => sb9.extBut b o hb e) nD hDC (.inr (Nat.le_refl _)) (fun y c e z => by have := ctop y c e; rw [z] at this; exact Nat.lt_irrefl _ this) fun p hp => nomatch hp
          refine ⟨m', hm, i + 1, some v5a, some v5b, H8, ys ++ [y8], its.push uy, k9, I9.pins_of fun p hp => ?_, T.keep _ _ _ st8 fun b hb o e => sb9.extBut b o (fun z => Dfp (z ▸ hb)) e, fr8, ?_, ?_, w8⟩
          · have e : p = _ := List.mem_singleton.mp hp
            subst e
            exact ⟨e9, nD, hDC, hD, fun v z => by cases z⟩
          · rw [Array.toList_push]
            exact vs3.append (.cons r8 .nil)
          · rw [List.length_append, List.length_singleton]; omega
    · refine (IY t1).pins_of fun p hp => ?_
      have e : p = _ := List.mem_singleton.mp hp
      subst e
      exact ⟨hacc, I2.hok.fresh (Nat.le_refl _), hDC, hD, fun v z => by cases z⟩
  exact codeAny_compStart_list (loop _) (T.self _ 0 _ _ _ (T.keep _ _ _ st2 fun b _ o e => old b o e) (loop _))
theorem pe_comp2 {sc : Scope} (hsc : X.env.scope = sc) (S : CpScope2 sc x x2 scope) (hx : x ∉ X.N) (hx2 : x2 ∉ X.N) (hxx : x ≠ x2) (h0 : (".0" : Str) ∉ X.N) (hN : X.N.Nodup) (hc : X.calm = true) (hi : PI X (.Tuple [.Name x px, .Name x2 px2] tk ptg) iter wi)
    (ht : ∀ C s H ex, PIfs (X.comp2 X.N scope x x2 C s H ex) ifs tt) (he : ∀ C s H ex, PE (X.comp2 X.N scope x x2 C s H ex) elt te) (hs : ∀ v, foldedSetIterable iter X.env v = pure v := by intro _; rfl) :
    PE X (.ListComp elt [⟨.Tuple [.Name x px, .Name x2 px2] tk ptg, iter, ifs, 0⟩] scope pos) (tComp2 X.K wi tt te) := by
  intro pins s σ H Q I h
  rw [eval_ListComp]
  exact comp_core2 (use := none) (M := X.N) hsc S hx hx2 hxx h0 hN rfl (fun _ _ e => .inl e) hc hi ht he I h (fun D C s4 H4 _ _ _ _ _ hn inv q => let ⟨m, hn⟩ := hn; ⟨m, hn, fun h' hs' => ⟨.ref D, H4, inv h' hs', rfl, q⟩⟩) hs
theorem zip_or {scope : Scope} : ∀ {M N : List Str}, (M.zip N).all (fun p => p.1 == p.2 || (scope.names.lookup p.1).isNone) = true → M.length = N.length → ∀ (j : Nat) y, M[j]? = some y → N[j]? = some y ∨ scope.names.lookup y = none
  | [], _, _, _, j, y, e => by simp at e
  | _ :: _, [], _, hl, _, _, _ => by cases hl
  | m :: M, n :: N, h, hl, 0, y, e => by
    have e' : m = y := Option.some.inj e
    subst e'
    rw [List.zip_cons_cons, List.all_cons, Bool.and_eq_true, Bool.or_eq_true] at h
    rcases h.1 with z | z
    · exact .inl (by rw [show n = m from (eq_of_beq z).symm]; rfl)
    · exact .inr (Option.isNone_iff_eq_none.mp z)
  | m :: M, n :: N, h, hl, j + 1, y, e => by
    rw [List.zip_cons_cons, List.all_cons, Bool.and_eq_true] at h
    exact zip_or h.2 (Nat.succ.inj hl) j y e
theorem pe_comp2S {sc : Scope} (M N0 : List Str) (hN0 : X.N = N0) (hsc : X.env.scope = sc) (S : CpScope2 sc x x2 scope) (hx : x ∉ M) (hx2 : x2 ∉ M) (hxx : x ≠ x2) (h0 : (".0" : Str) ∉ M) (hN : M.Nodup) (hlen : M.length = N0.length) (hM : (M.zip N0).all (fun p => p.1 == p.2 || (scope.names.lookup p.1).isNone) = true) (hc : X.calm = true) (hi : PI X (.Tuple [.Name x px, .Name x2 px2] tk ptg) iter wi)
    (ht : ∀ C s H ex, PIfs (X.comp2 M scope x x2 C s H ex) ifs tt) (he : ∀ C s H ex, PE (X.comp2 M scope x x2 C s H ex) elt te) (hs : ∀ v, foldedSetIterable iter X.env v = pure v := by intro _; rfl) :
    PE X (.ListComp elt [⟨.Tuple [.Name x px, .Name x2 px2] tk ptg, iter, ifs, 0⟩] scope pos) (tComp2 X.K wi tt te) := by
  subst hN0
  intro pins s σ H Q I h
  rw [eval_ListComp]
  exact comp_core2 (use := none) (M := M) hsc S hx hx2 hxx h0 hN hlen (zip_or hM hlen) hc hi ht he I h (fun D C s4 H4 _ _ _ _ _ hn inv q => let ⟨m, hn⟩ := hn; ⟨m, hn, fun h' hs' => ⟨.ref D, H4, inv h' hs', rfl, q⟩⟩) hs
theorem ps_setC2 {sc : Scope} {i : Nat} {y : Str} {py spos : Pos} (hi' : X.N[i]? = some y) (hy : Loc X.env.scope y) (hsc : X.env.scope = sc) (S : CpScope2 sc x x2 scope) (hx : x ∉ X.N) (hx2 : x2 ∉ X.N) (hxx : x ≠ x2) (h0 : (".0" : Str) ∉ X.N) (hN : X.N.Nodup) (hc : X.calm = true) (hi : PI X (.Tuple [.Name x px, .Name x2 px2] tk ptg) iter wi)
    (ht : ∀ C s H ex, PIfs (X.comp2 X.N scope x x2 C s H ex) ifs tt) (he : ∀ C s H ex, PE (X.comp2 X.N scope x x2 C s H ex) elt te) (hs : ∀ v, foldedSetIterable iter X.env v = pure v := by intro _; rfl)
    (hsw : swapsWith (.ListComp elt [⟨.Tuple [.Name x px, .Name x2 px2] tk ptg, iter, ifs, 0⟩] scope pos) (some (.Name y py)) spos.line X.env = pure true := by rfl)
    (hf : X.fn y = true ∨ X.env.scope.names.lookup y = some .local := by first | exact .inl rfl | exact .inr rfl | assumption) :
    PS X (.Assign [.Name y py] (.ListComp elt [⟨.Tuple [.Name x px, .Name x2 px2] tk ptg, iter, ifs, 0⟩] scope pos) spos) (tAsg (tComp2 X.K wi tt te) (gName i)) := by
  intro pins s σ H D I h
  rw [exec_Assign_Name_used _ _ _ _ hsw]
  refine wpAny_bind (wpAny_standAt (wpAny_bind ?_))
  show wpAny _ X.A (do let _ ← comprehension (.ListComp elt [⟨.Tuple [.Name x px, .Name x2 px2] tk ptg, iter, ifs, 0⟩] scope pos) scope X.env _ (newList []) false (eval iter X.env) (some (assign (.Name y py) X.env))) _ _ s
  refine wpAny_bind (wpAny_mono (comp_core2 (use := some (assign (.Name y py) X.env)) (QQ := fun _ s' => SP X pins D .next s') (M := X.N) hsc S hx hx2 hxx h0 hN rfl (fun _ _ e => .inl e) hc hi ht he I h (fun D' C s4 H4 c1 c2 c3 c4 c5 hn inv q => ?_) hs) (fun _ s' hq => wpAny_pure (wpAny_pure hq)) fun _ _ e => e)
  obtain ⟨m, hn⟩ := hn
  show wpAny _ X.A (assign (.Name y py) X.env (.ref D')) _ _ s4
  refine wpAny_assign_Name (store_ok2 (v := .ref D') (inv s4.heap (.refl ..)) hN hi' hy rfl (fun s5 I5 ⟨a, sb, ha⟩ => ?_) hf)
  have hCa : C ≠ a := by
    rcases ha with r | r
    · rw [r]; exact c1
    · exact fun z => c2 _ _ r z.symm
  exact ⟨m, hn.sameBut sb hCa, fun h' hs' => ⟨_, H4, I5.turned (t' := s5.toks) (fun b o hb e => hs'.extBut b o hb e) c5 c1 (.inr c4) c2 c3, q⟩⟩
end
end L2

set_option Elab.async false
set_option linter.all false
set_option maxRecDepth 100000
namespace L2
open PySem PySem.Spec PyProof.Rows
def dV : V → PyData
  | .bl b => .bool b
  | .int i => .int i
  | .str x => .str x
  | _ => .none
def okV : V → Bool
  | .non => true
  | .bl _ => true
  | .int _ => true
  | .str x => PyData.strOk x
  | _ => false
theorem okV_flat : ∀ {x : V}, okV x = true → flatV x = true
  | .non, _ => rfl
  | .bl b, _ => rfl
  | .int i, _ => rfl
  | .str x, _ => rfl
theorem okVs_flat {xs : List V} (h : xs.all okV = true) : xs.all flatV = true := List.all_eq_true.mpr fun x hx => okV_flat (List.all_eq_true.mp h x hx)
theorem strOk_of (s : String) : PyData.strOk (Str.ofString s) = true := by
  rw [Str.ofString_eq_toList]
  unfold PyData.strOk
  rw [← Array.all_toList]
  refine List.all_eq_true.mpr fun x hx => ?_
  obtain ⟨c, _, rfl⟩ := List.mem_map.mp hx
  refine decide_eq_true ?_
  have h := c.valid
  have e : c.toNat = c.val.toNat := rfl
  rcases h with h | ⟨_, h⟩
  · have h' : c.val.toNat < 0xd800 := h
    omega
  · have h' : c.val.toNat < 0x110000 := h
    omega
theorem dv_flat {K : PySem.W.Frag} {H : Hp} : ∀ {x : V}, okV x = true → DV K H x (dV x)
  | .non, _ => .non
  | .bl b, _ => .bl b
  | .int i, _ => .int i
  | .str x, _ => .str x
theorem dvs_flat {K : PySem.W.Frag} {H : Hp} : ∀ {xs : List V}, xs.all okV = true → DVs K H xs (xs.map dV)
  | [], _ => .nil
  | x :: xs, h => by
    rw [List.all_cons, Bool.and_eq_true] at h
    exact .cons (dv_flat h.1) (dvs_flat h.2)
theorem dV_lay {x : V} (h : okV x = true) : (dV x).canLay0 = true := by
  cases x <;> first | (simp [dV, PyData.canLay0]; done) | (simp only [dV, PyData.canLay0]; exact h) | cases h
theorem dV_depth (x : V) : (dV x).depth = 0 := by cases x <;> simp [dV, PyData.depth]
theorem dVs_lay : ∀ {xs : List V}, xs.all okV = true → PyData.canLayAll0 (xs.map dV) = true
  | [], _ => rfl
  | x :: r, h => by
    rw [List.all_cons, Bool.and_eq_true] at h
    simp [PyData.canLayAll0, dV_lay h.1, dVs_lay h.2]
theorem dVs_depth : ∀ xs : List V, PyData.depthAll (xs.map dV) = 0
  | [] => rfl
  | x :: r => by simp [PyData.depthAll, dV_depth x, dVs_depth r]
theorem dV_eqv (x : V) : PyData.eqv (dV x) (dV x) = true := by cases x <;> simp [dV, PyData.eqv]
theorem dVs_eqv : ∀ xs : List V, PyData.eqvAll (xs.map dV) (xs.map dV) = true
  | [] => rfl
  | x :: r => by simp [PyData.eqvAll, dV_eqv x, dVs_eqv r]
theorem shapedT {xs : List V} (h : xs.all okV = true) : SeqAt.shaped (.tuple (xs.map dV)) = true := by simp [SeqAt.shaped, PyData.canLay0, PyData.depth, dVs_lay h, dVs_depth]
theorem shapedL {xs : List V} (h : xs.all okV = true) : SeqAt.shaped (.list (xs.map dV)) = true := by simp [SeqAt.shaped, PyData.canLay0, PyData.depth, dVs_lay h, dVs_depth]
theorem shapedLT {xs : List V} (h : xs.all okV = true) : SeqAt.shaped (.list [.tuple (xs.map dV)]) = true := by simp [SeqAt.shaped, PyData.canLay0, PyData.canLayAll0, PyData.depth, PyData.depthAll, dVs_lay h, dVs_depth]
section
variable {K : PySem.W.Frag} {H : Hp} {Q : VK} {σ : St} {D : Ends} {a b t u : Addr} {xs ys : List V}
theorem st_eqT (ha : SqT K H a xs) (hb : SqT K H b xs) (hf : xs.all okV = true) (q : Q (.bl true) H) : rEqD K (.ref a) (.ref b) H Q :=
  ⟨_, _, .tup ha (dvs_flat hf), .tup hb (dvs_flat hf), shapedT hf, shapedT hf, by rw [PyData.eqv, dVs_eqv]; exact q⟩
theorem st_neT (ha : SqT K H a xs) (hb : SqT K H b xs) (hf : xs.all okV = true) (q : Q (.bl false) H) : rNeD K (.ref a) (.ref b) H Q :=
  ⟨_, _, .tup ha (dvs_flat hf), .tup hb (dvs_flat hf), shapedT hf, shapedT hf, by rw [PyData.eqv, dVs_eqv]; exact q⟩
theorem st_eqL (ha : SqL K H a xs) (hb : SqL K H b xs) (hf : xs.all okV = true) (q : Q (.bl true) H) : rEqD K (.ref a) (.ref b) H Q :=
  ⟨_, _, .lst ha (dvs_flat hf), .lst hb (dvs_flat hf), shapedL hf, shapedL hf, by rw [PyData.eqv, dVs_eqv]; exact q⟩
theorem st_neL (ha : SqL K H a xs) (hb : SqL K H b xs) (hf : xs.all okV = true) (q : Q (.bl false) H) : rNeD K (.ref a) (.ref b) H Q :=
  ⟨_, _, .lst ha (dvs_flat hf), .lst hb (dvs_flat hf), shapedL hf, shapedL hf, by rw [PyData.eqv, dVs_eqv]; exact q⟩
theorem st_eqLT (ha : SqL K H a [.ref t]) (hb : SqL K H b [.ref u]) (ht : SqT K H t xs) (hu : SqT K H u xs) (hf : xs.all okV = true) (q : Q (.bl true) H) : rEqD K (.ref a) (.ref b) H Q :=
  ⟨_, _, .lst ha (.cons (.tup ht (dvs_flat hf)) .nil), .lst hb (.cons (.tup hu (dvs_flat hf)) .nil), shapedLT hf, shapedLT hf, by simp only [PyData.eqv, PyData.eqvAll, dVs_eqv, Bool.and_self]; exact q⟩
theorem st_neLT (ha : SqL K H a [.ref t]) (hb : SqL K H b [.ref u]) (ht : SqT K H t xs) (hu : SqT K H u xs) (hf : xs.all okV = true) (q : Q (.bl false) H) : rNeD K (.ref a) (.ref b) H Q :=
  ⟨_, _, .lst ha (.cons (.tup ht (dvs_flat hf)) .nil), .lst hb (.cons (.tup hu (dvs_flat hf)) .nil), shapedLT hf, shapedLT hf, by simp only [PyData.eqv, PyData.eqvAll, dVs_eqv, Bool.and_self]; exact q⟩
theorem eqv_nil (xs : List V) : PyData.eqvAll (xs.map dV) [] = xs.isEmpty := by cases xs <;> rfl
theorem st_eqT0 (ha : SqT K H a xs) (hb : SqT K H b []) (hf : xs.all okV = true) (q : Q (.bl xs.isEmpty) H) : rEqD K (.ref a) (.ref b) H Q :=
  ⟨_, _, .tup ha (dvs_flat hf), .tup hb .nil, shapedT hf, shapedT (xs := []) rfl, by rw [PyData.eqv, eqv_nil]; exact q⟩
theorem st_eqTc {x : V} (ha : SqT K H a (x :: xs)) (hb : SqT K H b []) (hf : (x :: xs).all okV = true) (q : Q (.bl false) H) : rEqD K (.ref a) (.ref b) H Q := st_eqT0 ha hb hf q
theorem st_eqTn (ha : SqT K H a []) (hb : SqT K H b []) (q : Q (.bl true) H) : rEqD K (.ref a) (.ref b) H Q := st_eqT0 ha hb rfl q
theorem st_neL0 (ha : SqL K H a xs) (hb : SqL K H b []) (hf : xs.all okV = true) (q : Q (.bl (!xs.isEmpty)) H) : rNeD K (.ref a) (.ref b) H Q :=
  ⟨_, _, .lst ha (dvs_flat hf), .lst hb .nil, shapedL hf, shapedL (xs := []) rfl, by rw [PyData.eqv, eqv_nil]; exact q⟩
theorem st_slT {lo hi : Option Int} (s : SqT K H a xs) (c : ¬ (HT.sIx xs.length 0 lo = 0 ∧ HT.sIx xs.length xs.length hi = xs.length)) (h : ∀ p, H p = none → Q (.ref p) (upd H p (.tup (cutV xs lo hi)))) : rSlT K (.ref a) lo hi H Q := ⟨a, xs, rfl, s, c, h⟩
theorem st_catT (ha : SqT K H a xs) (hb : SqT K H b ys) (hx : xs ≠ []) (hy : ys ≠ []) (hl : xs.length + ys.length ≤ 1000) (q : ∀ p, H p = none → Q (.ref p) (upd H p (.tup (xs ++ ys)))) : rCatT K (.ref a) (.ref b) H Q :=
  ⟨a, b, xs, ys, rfl, rfl, ha, hb, hx, Nat.le_of_lt (small1000 hl), fun z => (hy z).elim, fun _ => q⟩
theorem st_catT0 (ha : SqT K H a xs) (hb : SqT K H b []) (hx : xs ≠ []) (hl : xs.length ≤ 1000) (q : Q (.ref a) H) : rCatT K (.ref a) (.ref b) H Q :=
  ⟨a, b, xs, [], rfl, rfl, ha, hb, hx, Nat.le_of_lt (small1000 hl), fun _ => q, fun z => (z rfl).elim⟩
theorem st_bestT {le : Int → Int → Prop} {ns : List Int} (s : SqT K H a (ns.map V.int)) (h0 : 0 < ns.length) (q : ∀ M, M ∈ ns → (∀ a ∈ ns, le a M) → Q (.int M) H) : rBest K le [.ref a] H Q := ⟨a, ns, rfl, .inr s, h0, q⟩
theorem st_bestL {le : Int → Int → Prop} {ns : List Int} (s : SqL K H a (ns.map V.int)) (h0 : 0 < ns.length) (q : ∀ M, M ∈ ns → (∀ a ∈ ns, le a M) → Q (.int M) H) : rBest K le [.ref a] H Q := ⟨a, ns, rfl, .inl s, h0, q⟩
theorem st_inTab {neg : Bool} {k : Str} {T : List (Str × Int)} (h : Tab K a T) (q : Q (.bl (neg != (tabAt k T).isSome)) H) : rInTab K neg (.str k) (.ref a) H Q := ⟨k, a, T, rfl, rfl, h, q⟩
theorem st_ixTab {k : Str} {T : List (Str × Int)} {i : Int} (h : Tab K a T) (e : tabAt k T = some i) (q : Q (.int i) H) : rIxTab K (.ref a) (.str k) H Q := ⟨k, a, T, i, rfl, rfl, h, e, q⟩
theorem st_inT {neg : Bool} {x : V} (s : SqT K H a xs) (hx : flatV x = true) (hs : xs.all flatV = true) (q : Q (.bl (if neg then !inV x xs else inV x xs)) H) : rIn K neg x (.ref a) H Q := ⟨a, xs, rfl, .inr s, hx, hs, q⟩
def rIntB : List V → Hp → VK → Prop := fun xs H Q => ∃ k, xs = [.bl k] ∧ Q (.int (Tw.bI k)) H
theorem st_intB {k : Bool} (q : Q (.int (Tw.bI k)) H) : rIntB [.bl k] H Q := ⟨k, rfl, q⟩
theorem st_strO {n : Nat} (h : n < 2 ^ 100) (q : ∀ x : Str, PyData.strOk x = true → Q (.str x) H) : rStrI [.int (n : Int)] H Q := ⟨_, rfl, by
  rw [Int.natAbs_natCast]
  by_cases h0 : n = 0
  · subst h0; decide
  · have := (Nat.log2_lt h0).mpr h; omega, q _ (strOk_of _)⟩
theorem st_clear (h : H a = some (.lst xs)) (q : Q .non (upd H a (.lst []))) : rClear (.ref a) [] H Q := ⟨a, xs, rfl, rfl, h, q⟩
theorem st_extend {zs : List V} (h : H a = some (.lst xs)) (hb : H b = some (.lst zs)) (hz : xs.length + zs.length ≤ 1000) (hn : a ≠ b) (q : Q .non (upd H a (.lst (xs ++ zs)))) : rExtend (.ref a) [.ref b] H Q := by
  refine ⟨a, b, xs, zs, rfl, rfl, h, hb, ?_⟩
  first
  | exact ⟨Nat.le_of_lt (small1000 hz), q⟩
  | exact ⟨hn, Nat.le_of_lt (small1000 hz), q⟩
  | exact ⟨Nat.le_of_lt (small1000 hz), hn, q⟩
end
section
variable {X : Cx}
theorem op_eqDK {K : PySem.W.Frag} (h : X.K = K) (hu : X.A.units + 64 < cLine) : OpR X (compareOp .Eq) (rEqD K) := h ▸ op_eqD hu
theorem op_neDK {K : PySem.W.Frag} (h : X.K = K) (hu : X.A.units + 64 < cLine) : OpR X (compareOp .NotEq) (rNeD K) := h ▸ op_neD hu
theorem call_intB : CallR X (.type "int") rIntB := by
  intro pins s σ H xs us Q I r h
  obtain ⟨k, rfl, q⟩ := h
  refine call_int1 pins s σ H [.bl k] us Q I r (.inr ⟨k, rfl, ?_⟩)
  cases k <;> exact q
end
theorem dvs_bls {K : PySem.W.Frag} {H : Hp} : ∀ bs : List Bool, DVs K H (bs.map V.bl) (bs.map PyData.bool)
  | [] => .nil
  | _ :: r => .cons (.bl _) (dvs_bls r)
theorem shaped_bls (bs : List Bool) : SeqAt.shaped (.list (bs.map PyData.bool)) = true := by
  have h := shapedL (xs := bs.map V.bl) (List.all_eq_true.mpr fun x hx => by obtain ⟨b, _, rfl⟩ := List.mem_map.mp hx; rfl)
  rw [List.map_map] at h
  exact h
theorem eqv_bls : ∀ bs cs : List Bool, PyData.eqvAll (bs.map PyData.bool) (cs.map PyData.bool) = decide (bs = cs)
  | [], [] => by simp [PyData.eqvAll]
  | [], _ :: _ => by simp [PyData.eqvAll]
  | _ :: _, [] => by simp [PyData.eqvAll]
  | a :: r, b :: t => by
    simp only [List.map_cons, PyData.eqvAll, PyData.eqv, eqv_bls r t]
    by_cases h : a = b <;> by_cases h' : r = t <;> simp [h, h']
theorem st_eqLb {K : PySem.W.Frag} {H : Hp} {Q : VK} {a b : Addr} {bs cs : List Bool} (ha : SqL K H a (bs.map V.bl)) (hb : SqL K H b (cs.map V.bl)) (q : Q (.bl (decide (bs = cs))) H) : rEqD K (.ref a) (.ref b) H Q :=
  ⟨_, _, .lst ha (dvs_bls bs), .lst hb (dvs_bls cs), shaped_bls bs, shaped_bls cs, by rw [PyData.eqv, eqv_bls]; exact q⟩
theorem ite_t {c A B : Prop} [Decidable c] (h : c) (a : A) : if decide c = true then A else B := by
  rw [decide_eq_true h]
  exact iteT a
theorem ite_f {c A B : Prop} [Decidable c] (h : ¬ c) (b : B) : if decide c = true then A else B := by
  rw [decide_eq_false h]
  exact iteF b
theorem cut1 (x : V) (xs : List V) : cutV (x :: xs) (some 1) none = xs := by
  unfold cutV
  rw [HT.sIx_none, show (some (1 : Int)) = some ((1 : Nat) : Int) from rfl, HT.sIx_nat]
  simp
theorem cut2 (x y : V) (xs : List V) : cutV (x :: y :: xs) (some 2) none = xs := by
  unfold cutV
  rw [HT.sIx_none, show (some (2 : Int)) = some ((2 : Nat) : Int) from rfl, HT.sIx_nat]
  simp
section
variable {K : PySem.W.Frag} {H : Hp} {Q : VK} {a : Addr} {xs : List V}
theorem st_tl {x : V} (s : SqT K H a (x :: xs)) (h : ∀ p, H p = none → Q (.ref p) (upd H p (.tup xs))) : rSlT K (.ref a) (some 1) none H Q :=
  st_slT s (fun z => by rw [show (some (1 : Int)) = some ((1 : Nat) : Int) from rfl, HT.sIx_nat] at z; have := z.1; simp at this) (by rw [cut1]; exact h)
theorem st_tl2 {x y : V} (s : SqT K H a (x :: y :: xs)) (h : ∀ p, H p = none → Q (.ref p) (upd H p (.tup xs))) : rSlT K (.ref a) (some 2) none H Q :=
  st_slT s (fun z => by rw [show (some (2 : Int)) = some ((2 : Nat) : Int) from rfl, HT.sIx_nat] at z; have := z.1; simp at this) (by rw [cut2]; exact h)
theorem st_ini2 {x y : V} (s : SqT K H a [x, y]) (h : ∀ p, H p = none → Q (.ref p) (upd H p (.tup [x]))) : rSlT K (.ref a) none (some (-1)) H Q :=
  st_slT s (by simp only [List.length_cons, List.length_nil]; decide) (by rw [show cutV [x, y] none (some (-1)) = [x] from rfl]; exact h)
theorem st_ini3 {x y z : V} (s : SqT K H a [x, y, z]) (h : ∀ p, H p = none → Q (.ref p) (upd H p (.tup [x, y]))) : rSlT K (.ref a) none (some (-1)) H Q :=
  st_slT s (by simp only [List.length_cons, List.length_nil]; decide) (by rw [show cutV [x, y, z] none (some (-1)) = [x, y] from rfl]; exact h)
end
theorem same_init {H : Hp} {x dx t C : Addr} {o o2 : HO} (hx : H x = none) (hd : H dx = none) (ht : (upd (upd H dx (.own x)) x (.ins C dx [])) t = none) : Same H (upd (upd (upd (upd H dx (.own x)) x (.ins C dx [])) t o) x o2) := by
  intro b u e
  have e2 := same_made (C := C) hx hd b u e
  rw [upd_ne (ne_of_none e hx), upd_ne (ne_of_none e2 ht)]
  exact e2
theorem at0 (x : V) (xs : List V) : atI (x :: xs) 0 = some x := atI_nat (j := 0) rfl
theorem at1 (x y : V) (xs : List V) : atI (x :: y :: xs) 1 = some y := atI_nat (j := 1) rfl
structure App (l : Addr) (H H' : Hp) : Prop where
  ex : ∃ xs ys, H l = some (.lst xs) ∧ H' = upd H l (.lst ys)
theorem App.la {l a : Addr} {H H' : Hp} {zs : List V} (h : App l H H') (s : H a = some (.tup zs)) : H' a = some (.tup zs) := by
  obtain ⟨xs, ys, h1, rfl⟩ := h.ex
  rw [upd_ne (ne_of s h1 (by intro z; cases z))]
  exact s
theorem App.sq {K : PySem.W.Frag} {l a : Addr} {H H' : Hp} {zs : List V} (h : App l H H') (s : H a = some (.tup zs)) : SqT K H' a zs := SqT.of (h.la s)
theorem App.sm {l : Addr} {H0 H H' : Hp} (h : App l H H') (s : Same H0 H) (n : H0 l = none) : Same H0 H' := by
  obtain ⟨xs, ys, h1, rfl⟩ := h.ex
  intro b u e
  rw [upd_ne (ne_of_none e n)]
  exact s b u e
theorem st_appendG {H : Hp} {Q : VK} {l : Addr} {xs : List V} {y : V} (h : H l = some (.lst xs)) (hz : xs.length ≤ 1000) (q : ∀ H', H' l = some (.lst (xs ++ [y])) → App l H H' → Q .non H') : rAppend (.ref l) [y] H Q :=
  st_append h hz (q _ upd_same ⟨xs, _, h, rfl⟩)
theorem all_get {f : V → Bool} {xs : List V} (h : xs.all f = true) {i : Nat} {x : V} (e : xs[i]? = some x) : f x = true := List.all_eq_true.mp h _ (List.mem_of_getElem? e)
theorem take_succ_of {α : Type} {xs : List α} {i : Nat} {x : α} (e : xs[i]? = some x) : xs.take (i + 1) = xs.take i ++ [x] := by
  rw [List.take_add_one, e]
  rfl
theorem all_id_map {xs : List V} {f : V → Bool} : (xs.map f).all id = xs.all f := by
  rw [List.all_map]
  rfl
theorem int_get {is : List Int} {i : Nat} {x : V} (e : (is.map V.int)[i]? = some x) : ∃ j, x = .int j := by
  rw [List.getElem?_map] at e
  cases h : is[i]? with
  | none => rw [h] at e; cases e
  | some j => rw [h] at e; exact ⟨j, (Option.some.inj e).symm⟩
theorem all_replicate (n : Nat) : (List.replicate n true).all id = true := by simp
theorem len1 {is : List Int} (h : is.length = 1) : ∃ i, is = [i] := by
  match is, h with
  | [i], _ => exact ⟨i, rfl⟩
theorem len2 {is : List Int} (h : is.length = 2) : ∃ i j, is = [i, j] := by
  match is, h with
  | [i, j], _ => exact ⟨i, j, rfl⟩
def sCompT (K : PySem.W.Frag) (tt : TT) (te : TE) (σ : St) (Q : VK) : V → Hp → Prop := fun x H1 => ∃ a, x = .ref a ∧ (∃ xs, SqT K H1 a xs) ∧ ∃ W : Nat → Nat → List V → Hp → Prop, (∃ m, W 0 m [] H1) ∧ ∀ i m ys H, W i m ys H →
  ((Itt K a).stop i H ∧ ∀ p, H p = none → Q (.ref p) (upd H p (.lst ys))) ∨
  ((Itt K a).go i H ∧ ys.length < sizeLine ∧ ∃ N : List V → Hp → Prop, (∀ ys' H', N ys' H' → ∃ m', m' < m ∧ W (i + 1) m' ys' H') ∧
    ∀ x H', (Itt K a).yld i H x H' → tt (some x :: σ) H' fun b H2 => if b = true then te (some x :: σ) H2 fun y H3 => N (ys ++ [y]) H3 else N ys H2)
section
variable {K : PySem.W.Frag} {a : Addr} {xs : List V} {tl te : TE} {tt : TT} {Q : VK} {σ : St} {H : Hp}
theorem st_compE (h : tl σ H (sCompT K tt te σ Q)) : tComp (iTup K tl) tt te σ H Q := h
theorem st_compAt (s : SqT K H a xs) (Pv : Nat → List V → Hp → Prop) (hn : xs.length ≤ 1000) (h0 : Pv 0 [] H) (hl : ∀ i ys H, Pv i ys H → ys.length ≤ i) (hk : ∀ i ys H, Pv i ys H → SqT K H a xs)
    (hs : ∀ i x ys H, xs[i]? = some x → Pv i ys H → tt (some x :: σ) H fun b H2 => if b = true then te (some x :: σ) H2 fun y H3 => Pv (i + 1) (ys ++ [y]) H3 else Pv (i + 1) ys H2)
    (hd : ∀ ys H, Pv xs.length ys H → ∀ p, H p = none → Q (.ref p) (upd H p (.lst ys))) : sCompT K tt te σ Q (.ref a) H := ⟨a, rfl, ⟨xs, s⟩, comp_tup Pv hn h0 hl hk hs hd⟩
theorem st_compF {f : V → Bool} (s : SqT K H a xs) (hn : xs.length ≤ 1000) (ht : ∀ x (R : Bool → Hp → Prop), x ∈ xs → R (f x) H → tt (some x :: σ) H R) (he : ∀ x (R : VK), x ∈ xs → R x H → te (some x :: σ) H R)
    (hd : ∀ p, H p = none → Q (.ref p) (upd H p (.lst (xs.filter f)))) : sCompT K tt te σ Q (.ref a) H := by
  refine st_compAt s (fun i ys H' => H' = H ∧ ys = (xs.take i).filter f) hn ⟨rfl, rfl⟩ ?_ ?_ ?_ ?_
  · rintro i ys H' ⟨rfl, rfl⟩
    exact Nat.le_trans (List.length_filter_le _ _) (by rw [List.length_take]; omega)
  · rintro i ys H' ⟨rfl, rfl⟩
    exact s
  · rintro i x ys H' hx ⟨rfl, rfl⟩
    have hm := List.mem_of_getElem? hx
    refine ht x _ hm ?_
    rw [take_succ_of hx, List.filter_append]
    cases e : f x with
    | true =>
      rw [if_pos rfl]
      refine he x _ hm ⟨rfl, ?_⟩
      rw [List.filter_cons, if_pos e]
      rfl
    | false =>
      rw [if_neg Bool.false_ne_true]
      refine ⟨rfl, ?_⟩
      rw [List.filter_cons, if_neg (by rw [e]; exact Bool.false_ne_true)]
      simp
  · rintro ys H' ⟨rfl, rfl⟩ p hp
    rw [List.take_length]
    exact hd p hp
end
theorem st_comp2_list {K : PySem.W.Frag} {a : Addr} {xs : List V} {tl : TE} {tt : TT} {te : TE} {Q : VK} {σ : St} {H : Hp} (e : ∀ P : V → Hp → Prop, P (.ref a) H → tl σ H P) (s : SqL K H a xs) (Pv : Nat → List V → Hp → Prop) (hn : xs.length ≤ 1000) (h0 : Pv 0 [] H) (hl : ∀ i ys H, Pv i ys H → ys.length ≤ i) (hk : ∀ i ys H, Pv i ys H → SqL K H a xs)
    (hs : ∀ i x ys H, xs[i]? = some x → Pv i ys H → ∃ b v w, x = .ref b ∧ SqT K H b [v, w] ∧ tt (some v :: some w :: σ) H fun c H2 => if c = true then te (some v :: some w :: σ) H2 fun y H3 => Pv (i + 1) (ys ++ [y]) H3 else Pv (i + 1) ys H2)
    (hd : ∀ ys H, Pv xs.length ys H → ∀ p, H p = none → Q (.ref p) (upd H p (.lst ys))) : tComp2 K (iList K tl) tt te σ H Q := by
  refine e _ ⟨a, rfl, ⟨xs, s⟩, fun i m ys H => m = xs.length - i ∧ i ≤ xs.length ∧ Pv i ys H, ⟨xs.length, by simp, Nat.zero_le _, h0⟩, ?_⟩
  rintro i m ys H ⟨rfl, hi, p⟩
  by_cases hlt : i < xs.length
  · refine .inr ⟨⟨xs, xs[i], hk i ys H p, by simp [hlt]⟩, small1000 (by have := hl i ys H p; omega), Pv (i + 1), fun ys' H' p' => ⟨xs.length - (i + 1), by omega, rfl, hlt, p'⟩, fun x H' y => ?_⟩
    obtain ⟨e, y⟩ := y
    subst e
    exact hs i x ys _ (y xs (hk i ys _ p)) p
  · have e : i = xs.length := by omega
    subst e
    exact .inl ⟨⟨xs, hk _ ys H p, Nat.le_refl _⟩, hd ys H p⟩
end L2

set_option Elab.async false
set_option linter.all false
set_option maxRecDepth 100000
namespace L2
open PySem PySem.Spec PyProof.Rows
section
variable {H : Hp} {Q : VK} {n m : Nat} {p q : Bool}
theorem st_xorNB (h : Q (.int ((n ^^^ p.toNat : Nat) : Int)) H) : rI0 (fun i j => .int (Builtin.bitXor i j)) (.int (n : Int)) (.int (Tw.bI p)) H Q := st_i0 (by
  rw [Tw.bI_nat, bitXor_nat]; exact h)
theorem st_xorBB (h : Q (.int (Tw.bI (p ^^ q))) H) : rI0 (fun i j => .int (Builtin.bitXor i j)) (.int (Tw.bI p)) (.int (Tw.bI q)) H Q := st_i0 (by
  rw [Tw.bI_nat, Tw.bI_nat, bitXor_nat]
  have e : ((p.toNat ^^^ q.toNat : Nat) : Int) = Tw.bI (p ^^ q) := by cases p <;> cases q <;> rfl
  rw [e]; exact h)
theorem st_sub1B (h : Q (.int (Tw.bI (!q))) H) : rI0 (fun i j => .int (i - j)) (.int 1) (.int (Tw.bI q)) H Q := st_i0 (by
  have e : (1 : Int) - Tw.bI q = Tw.bI (!q) := by cases q <;> rfl
  rw [e]; exact h)
end
end L2

set_option Elab.async false
set_option linter.all false
set_option maxRecDepth 100000
namespace Tw
open PySem L2
inductive DK where
  | over | quarter | back | both | wher | swap
  deriving DecidableEq
def DK.word : DK → Str
  | .over => "over" | .quarter => "quarter" | .back => "back" | .both => "both" | .wher => "where" | .swap => "swap"
def DK.undo : DK → Str
  | .over => "over" | .quarter => "back" | .back => "quarter" | .both => "both" | .wher => "where" | .swap => "swap"
def DK.n : DK → Nat
  | .over => 1 | .quarter => 1 | .back => 1 | .both => 1 | .wher => 2 | .swap => 2
def DK.inv : DK → DK
  | .quarter => .back | .back => .quarter | k => k
theorem DK.undo_inv (k : DK) : k.undo = k.inv.word := by cases k <;> rfl
def tabW : List (Str × Int) := [("over", 1), ("quarter", 1), ("back", 1), ("both", 1), ("where", 2), ("swap", 2)]
theorem tab_word (k : DK) : tabAt k.word tabW = some (k.n : Int) := by cases k <;> decide +kernel
theorem word_inj {a b : DK} (h : a.word = b.word) : a = b := by revert h; cases a <;> cases b <;> first | (intro; rfl) | (intro h; exact absurd h (by decide +kernel))
theorem word_dec (a b : DK) : decide (a.word = b.word) = decide (a = b) := by
  by_cases h : a = b
  · rw [h, decide_eq_true rfl, decide_eq_true rfl]
  · rw [decide_eq_false h, decide_eq_false fun z => h (word_inj z)]
theorem word_ok (k : DK) : PyData.strOk k.word = true := by cases k <;> exact strOk_of _
theorem undo_ok (k : DK) : PyData.strOk k.undo = true := by cases k <;> exact strOk_of _
theorem DK.n_pos (k : DK) : 0 < k.n ∧ k.n ≤ 2 := by cases k <;> decide
def vn (l : List Nat) : List V := l.map fun k => V.int ((k : Nat) : Int)
theorem vn_ints (l : List Nat) : vn l = (l.map fun k : Nat => (k : Int)).map V.int := by unfold vn; rw [List.map_map]; rfl
theorem vn_flat : ∀ l : List Nat, (vn l).all okV = true
  | [] => rfl
  | _ :: r => vn_flat r
theorem words_ok (k : DK) (l : List Nat) : (V.str k.word :: vn l).all okV = true := by
  rw [List.all_cons, vn_flat, Bool.and_true]
  exact word_ok k
theorem undos_ok (k : DK) (l : List Nat) : (V.str k.undo :: vn l).all okV = true := by
  rw [List.all_cons, vn_flat, Bool.and_true]
  exact undo_ok k
theorem ints_flat : ∀ l : List Int, (l.map V.int).all okV = true
  | [] => rfl
  | _ :: r => ints_flat r
theorem vn_len (l : List Nat) : (vn l).length = l.length := by unfold vn; rw [List.length_map]
structure Dd where
  k : DK
  w : List Nat
structure Dd.Ok (d : Dd) (n : Nat) : Prop where
  len : d.w.length = d.k.n
  lt : ∀ x ∈ d.w, x < n
  nd : d.w.Nodup
def flds (k : DK) (t : Addr) : List (Str × V) := [("word", .str k.word), ("undoer", .str k.undo), ("at", .ref t)]
theorem flds_word (k : DK) (t : Addr) : (flds k t).lookup ("word" : Str) = some (.str k.word) := rfl
theorem flds_undoer (k : DK) (t : Addr) : (flds k t).lookup ("undoer" : Str) = some (.str k.undo) := by
  unfold flds
  rw [List.lookup_cons, show (("undoer" : Str) == "word") = false by decide +kernel]
  rfl
theorem flds_at (k : DK) (t : Addr) : (flds k t).lookup ("at" : Str) = some (.ref t) := by
  unfold flds
  rw [List.lookup_cons, show (("at" : Str) == "word") = false by decide +kernel]
  show List.lookup ("at" : Str) [(("undoer" : Str), V.str k.undo), ("at", .ref t)] = _
  rw [List.lookup_cons, show (("at" : Str) == "undoer") = false by decide +kernel]
  rfl
theorem flds_no (k : DK) (t : Addr) {m : Str} (h1 : (m == "word") = false) (h2 : (m == "undoer") = false) (h3 : (m == "at") = false) : (flds k t).lookup m = none := by
  unfold flds
  rw [List.lookup_cons, h1]
  show List.lookup m [(("undoer" : Str), V.str k.undo), ("at", .ref t)] = _
  rw [List.lookup_cons, h2]
  show List.lookup m [(("at" : Str), V.ref t)] = _
  rw [List.lookup_cons, h3]
  rfl
theorem flds_put (w u : Str) (t : Addr) : putF "at" (.ref t) (putF "undoer" (.str u) (putF "word" (.str w) [])) = ([("word", .str w), ("undoer", .str u), ("at", .ref t)] : List (Str × V)) := by
  have h1 : ¬ (("word" : Str) = "undoer") := by decide +kernel
  have h2 : ¬ (("word" : Str) = "at") := by decide +kernel
  have h3 : ¬ (("undoer" : Str) = "at") := by decide +kernel
  simp only [putF, if_neg h1, if_neg h2, if_neg h3]
def DdAt (CD : DK → Addr) (H : Hp) (a : Addr) (d : Dd) : Prop := ∃ dx t, H a = some (.ins (CD d.k) dx (flds d.k t)) ∧ H t = some (.tup (vn d.w)) ∧ d.w.length = d.k.n
theorem DdAt.same {CD : DK → Addr} {H H' : Hp} {a : Addr} {d : Dd} (h : DdAt CD H a d) (s : Same H H') : DdAt CD H' a d := by
  obtain ⟨dx, t, h1, h2, h3⟩ := h
  exact ⟨dx, t, s _ _ h1, s _ _ h2, h3⟩
def WdAt (H : Hp) (a : Addr) (k : DK) (is : List Int) : Prop := H a = some (.tup (.str k.word :: is.map V.int)) ∧ is.length = k.n ∧ is.Nodup
def WN (K : PySem.W.Frag) (H : Hp) (v : V) (b : Bool) : Prop := ∃ t b1 b2, TyOf K H v t ∧ PySem.W.kitOne K t (.type "int") = some b1 ∧ PySem.W.kitOne K t (.type "bool") = some b2 ∧ b = (b1 && !b2)
theorem WN.int (K : PySem.W.Frag) (H : Hp) (i : Int) : WN K H (.int i) true := ⟨_, true, false, .int i, kit_int_int, kit_int_bool, rfl⟩
theorem WN.bl (K : PySem.W.Frag) (H : Hp) (i : Bool) : WN K H (.bl i) false := ⟨_, true, true, .bl i, kit_bool_int, kit_bool_bool, rfl⟩
theorem WN.str (K : PySem.W.Frag) (H : Hp) (i : Str) : WN K H (.str i) false := ⟨_, false, false, .str i, kit_str_int, kit_str_bool, rfl⟩
theorem WN.non (K : PySem.W.Frag) (H : Hp) : WN K H .non false := ⟨_, false, false, .non, kit_NoneType_int, kit_NoneType_bool, rfl⟩
def wnB : V → Bool
  | .int _ => true
  | _ => false
theorem WN.flat (K : PySem.W.Frag) (H : Hp) : ∀ {v : V}, flatV v = true → WN K H v (wnB v)
  | .int i, _ => WN.int K H i
  | .bl i, _ => WN.bl K H i
  | .str i, _ => WN.str K H i
  | .non, _ => WN.non K H
inductive NoW (K : PySem.W.Frag) (H : Hp) : V → Prop
  | kind {v t} (h : TyOf K H v t) (k : PySem.W.kitOne K t (.type "tuple") = some false) : NoW K H v
  | empty {a} (h : H a = some (.tup [])) : NoW K H (.ref a)
  | first {a i xs} (h : H a = some (.tup (.int i :: xs))) (f : xs.all okV = true) (m : xs.length ≤ 900) : NoW K H (.ref a)
  | word {a s xs} (h : H a = some (.tup (.str s :: xs))) (e : tabAt s tabW = none) (fs : PyData.strOk s = true) (f : xs.all okV = true) (m : xs.length ≤ 900) : NoW K H (.ref a)
  | len {a k xs} (h : H a = some (.tup (.str (DK.word k) :: xs))) (l : xs.length ≠ k.n) (f : xs.all okV = true) (m : xs.length ≤ 900) : NoW K H (.ref a)
  | part {a k xs} (h : H a = some (.tup (.str (DK.word k) :: xs))) (l : xs.length = k.n) (f : xs.all okV = true) (e : xs.all wnB = false) : NoW K H (.ref a)
  | same {a k i} (h : H a = some (.tup [.str (DK.word k), .int i, .int i])) (e : k.n = 2) : NoW K H (.ref a)
def Thg (K : PySem.W.Frag) (H : Hp) (v : V) : Prop := NoW K H v ∨ ∃ a k is, v = .ref a ∧ WdAt H a k is
def sp_is_whole_number (K : PySem.W.Frag) : Sp := fun vs H Q _ => ∃ v b, vs = [v] ∧ WN K H v b ∧ Q (.bl b) H
def sp_check_words (K : PySem.W.Frag) (C : Addr) : Sp := fun vs H Q E => ∃ v, vs = [v] ∧ ((NoW K H v ∧ ∀ H', Same H H' → E (.ref C) none H') ∨ (∃ a k is, v = .ref a ∧ WdAt H a k is ∧ ∀ H', Same H H' → Q .non H'))
def sp_Deed___init__ (K : PySem.W.Frag) (CD : DK → Addr) : Sp := fun vs H Q _ => ∃ p w u t, vs = [.ref p, .str w, .str u, .ref t] ∧ ∃ k dx, H p = some (.ins (CD k) dx []) ∧ Q .non (upd H p (.ins (CD k) dx [("word", .str w), ("undoer", .str u), ("at", .ref t)]))
def sp_init1 (K : PySem.W.Frag) (CD : DK → Addr) (k : DK) : Sp := fun vs H Q _ => ∃ (p : Addr) (j : Nat), vs = [.ref p, .int j] ∧ ∃ dx, H p = some (.ins (CD k) dx []) ∧ ∀ t, H t = none → Q .non (upd (upd H t (.tup (vn [j]))) p (.ins (CD k) dx (flds k t)))
def sp_init2 (K : PySem.W.Frag) (CD : DK → Addr) (k : DK) : Sp := fun vs H Q _ => ∃ (p : Addr) (j i : Nat), vs = [.ref p, .int j, .int i] ∧ ∃ dx, H p = some (.ins (CD k) dx []) ∧ ∀ t, H t = none → Q .non (upd (upd H t (.tup (vn [j, i]))) p (.ins (CD k) dx (flds k t)))
abbrev sp_Over___init__ (K : PySem.W.Frag) (CD : DK → Addr) : Sp := sp_init1 K CD .over
abbrev sp_Quarter___init__ (K : PySem.W.Frag) (CD : DK → Addr) : Sp := sp_init1 K CD .quarter
abbrev sp_Back___init__ (K : PySem.W.Frag) (CD : DK → Addr) : Sp := sp_init1 K CD .back
abbrev sp_Both___init__ (K : PySem.W.Frag) (CD : DK → Addr) : Sp := sp_init1 K CD .both
abbrev sp_Where___init__ (K : PySem.W.Frag) (CD : DK → Addr) : Sp := sp_init2 K CD .wher
abbrev sp_Swap___init__ (K : PySem.W.Frag) (CD : DK → Addr) : Sp := sp_init2 K CD .swap
def sp_Deed_wires (K : PySem.W.Frag) (CD : DK → Addr) : Sp := fun vs H Q _ => ∃ a d, vs = [.ref a] ∧ DdAt CD H a d ∧ ∀ p, H p = none → Q (.ref p) (upd H p (.lst (vn d.w)))
abbrev sp_D_wires (K : PySem.W.Frag) (CD : DK → Addr) (_ : DK) : Sp := sp_Deed_wires K CD
def sp_Deed_words (K : PySem.W.Frag) (CD : DK → Addr) : Sp := fun vs H Q _ => ∃ a d, vs = [.ref a] ∧ DdAt CD H a d ∧ ∀ p H', Same H H' → H' p = some (.tup (.str d.k.word :: vn d.w)) → Q (.ref p) H'
abbrev sp_D_words (K : PySem.W.Frag) (CD : DK → Addr) (_ : DK) : Sp := sp_Deed_words K CD
def sp_Deed_undoing (K : PySem.W.Frag) (CD : DK → Addr) : Sp := fun vs H Q _ => ∃ a d, vs = [.ref a] ∧ DdAt CD H a d ∧ ∀ p t H', Same H H' → H p = none → H' p = some (.lst [.ref t]) → H' t = some (.tup (.str d.k.undo :: vn d.w)) → Q (.ref p) H'
abbrev sp_D_undoing (K : PySem.W.Frag) (CD : DK → Addr) (_ : DK) : Sp := sp_Deed_undoing K CD
def sp_deed_of_words (K : PySem.W.Frag) (CD : DK → Addr) (C1 C2 : Addr) : Sp := fun vs H Q E => ∃ v, vs = [v] ∧ ((NoW K H v ∧ ∀ H', Same H H' → E (.ref C1) none H') ∨ (∃ a k is, v = .ref a ∧ WdAt H a k is ∧
  ((∀ i ∈ is, 0 ≤ i) → ∀ p d H', Same H H' → DdAt CD H' p d → d.k = k → d.w.map (fun x : Nat => (x : Int)) = is → Q (.ref p) H') ∧ ((¬ ∀ i ∈ is, 0 ≤ i) → ∀ H', Same H H' → E (.ref C2) none H')))
def sp_deed_of (K : PySem.W.Frag) (CD : DK → Addr) (C1 C2 : Addr) : Sp := fun vs H Q E => ∃ v n, vs = [v, .int ((n : Nat) : Int)] ∧ ((NoW K H v ∧ ∀ H', Same H H' → E (.ref C1) none H') ∨ (∃ a k is, v = .ref a ∧ WdAt H a k is ∧
  ((∀ i ∈ is, 0 ≤ i ∧ i < (n : Int)) → ∀ p d H', Same H H' → DdAt CD H' p d → d.k = k → d.w.map (fun x : Nat => (x : Int)) = is → Q (.ref p) H') ∧ ((¬ ∀ i ∈ is, 0 ≤ i ∧ i < (n : Int)) → ∀ H', Same H H' → E (.ref C2) none H')))
structure Row where
  m : Nat
  x : Nat
  z : Nat
def Row.V (r : Row) : List V := [.int (r.m : Nat), .int (r.x : Nat), .int (r.z : Nat)]
structure Row.Ok (r : Row) (n : Nat) : Prop where
  m : r.m ≤ 1
  x : r.x < 2 ^ n
  z : r.z < 2 ^ n
def ex (n i j : Nat) : Nat := n ^^^ (n.testBit i ^^ n.testBit j).toNat * 2 ^ i ^^^ (n.testBit i ^^ n.testBit j).toNat * 2 ^ j
def actW (k : DK) (i j : Nat) (r : Row) : Row :=
  match k with
  | .over => ⟨r.m ^^^ (r.z.testBit i).toNat, r.x, r.z⟩
  | .quarter => ⟨r.m ^^^ (r.x.testBit i && r.z.testBit i).toNat, r.x, r.z ^^^ (r.x.testBit i).toNat * 2 ^ i⟩
  | .back => ⟨r.m ^^^ (r.x.testBit i && !r.z.testBit i).toNat, r.x, r.z ^^^ (r.x.testBit i).toNat * 2 ^ i⟩
  | .both => ⟨r.m ^^^ (r.x.testBit i && r.z.testBit i).toNat, r.x ^^^ (r.x.testBit i ^^ r.z.testBit i).toNat * 2 ^ i, r.z ^^^ (r.x.testBit i ^^ r.z.testBit i).toNat * 2 ^ i⟩
  | .wher => ⟨r.m ^^^ (r.x.testBit i && r.z.testBit j && !(r.z.testBit i ^^ r.x.testBit j)).toNat, r.x ^^^ (r.x.testBit i).toNat * 2 ^ j, r.z ^^^ (r.z.testBit j).toNat * 2 ^ i⟩
  | .swap => ⟨r.m, ex r.x i j, ex r.z i j⟩
def act (d : Dd) (r : Row) : Row := actW d.k (d.w.getD 0 0) (d.w.getD 1 0) r
def sp_bit_at (K : PySem.W.Frag) : Sp := fun vs H Q _ => ∃ n k : Nat, vs = [.int n, .int k] ∧ Q (.int (bI (n.testBit k))) H
def sp_exchanged (K : PySem.W.Frag) : Sp := fun vs H Q _ => ∃ n i j : Nat, vs = [.int n, .int i, .int j] ∧ i ≤ 1000 ∧ j ≤ 1000 ∧ Q (.int (ex n i j : Nat)) H
def sp_onrow (K : PySem.W.Frag) (CD : DK → Addr) (k : DK) : Sp := fun vs H Q _ => ∃ (a b : Addr) (d : Dd) (r : Row), vs = [.ref a, .ref b] ∧ d.k = k ∧ DdAt CD H a d ∧ (∀ x ∈ d.w, x ≤ 1000) ∧ SqT K H b r.V ∧ ∀ p H', Same H H' → H' p = some (.tup (act d r).V) → Q (.ref p) H'
abbrev sp_D_on_row (K : PySem.W.Frag) (CD : DK → Addr) (k : DK) : Sp := sp_onrow K CD k
abbrev sp_Over_on_row (K : PySem.W.Frag) (CD : DK → Addr) : Sp := sp_onrow K CD .over
abbrev sp_Quarter_on_row (K : PySem.W.Frag) (CD : DK → Addr) : Sp := sp_onrow K CD .quarter
abbrev sp_Back_on_row (K : PySem.W.Frag) (CD : DK → Addr) : Sp := sp_onrow K CD .back
abbrev sp_Both_on_row (K : PySem.W.Frag) (CD : DK → Addr) : Sp := sp_onrow K CD .both
abbrev sp_Where_on_row (K : PySem.W.Frag) (CD : DK → Addr) : Sp := sp_onrow K CD .wher
abbrev sp_Swap_on_row (K : PySem.W.Frag) (CD : DK → Addr) : Sp := sp_onrow K CD .swap
theorem one_wire {w : List Nat} (h : w.length = 1) : ∃ i, w = [i] := by
  match w, h with
  | [i], _ => exact ⟨i, rfl⟩
theorem two_wires {w : List Nat} (h : w.length = 2) : ∃ i j, w = [i, j] := by
  match w, h with
  | [i, j], _ => exact ⟨i, j, rfl⟩
end Tw

set_option Elab.async false
set_option linter.all false
set_option maxRecDepth 100000
namespace Tw
theorem tb_mul (b : Bool) (i k : Nat) : (b.toNat * 2 ^ i).testBit k = (decide (i = k) && b) := by
  cases b with
  | false => simp
  | true => simp [Nat.testBit_two_pow]
theorem cnt_at {f g : Nat → Bool} {k : Nat} : ∀ {n : Nat}, k < n → (∀ i, i < n → i ≠ k → f i = g i) → cnt f n + (g k).toNat = cnt g n + (f k).toNat
  | n + 1, hk, h => by
    rw [cnt, cnt]
    by_cases e : k = n
    · subst e
      have := cnt_congr (p := f) (q := g) (k := k) fun i hi => h i (by omega) (by omega)
      omega
    · have := cnt_at (f := f) (g := g) (k := k) (n := n) (by omega) fun i hi hn => h i (by omega) hn
      rw [h n (by omega) (Ne.symm e)]
      omega
theorem cnt_at2 {f g : Nat → Bool} {i j n : Nat} (hi : i < n) (hj : j < n) (hij : i ≠ j) (h : ∀ k, k < n → k ≠ i → k ≠ j → f k = g k) : cnt f n + (g i).toNat + (g j).toNat = cnt g n + (f i).toNat + (f j).toNat := by
  have h1 := cnt_at (f := f) (g := fun k => if k = i then g i else f k) hi fun k _ hk => by simp [hk]
  have h2 := cnt_at (f := fun k => if k = i then g i else f k) (g := g) hj fun k hk1 hk => by
    by_cases e : k = i
    · simp [e]
    · simp only [e, if_false]
      exact h k hk1 e hk
  simp only [if_true] at h1
  simp only [Ne.symm hij, if_false] at h2
  omega
def turn (q : Nat) (p : Int × Int) : Int × Int :=
  if q % 4 = 0 then p else if q % 4 = 1 then (-p.2, p.1) else if q % 4 = 2 then (-p.1, -p.2) else (p.2, -p.1)
theorem turn_mod {a b : Nat} (h : a % 4 = b % 4) (p : Int × Int) : turn a p = turn b p := by unfold turn; rw [h]
theorem turn_turn (a b : Nat) (p : Int × Int) : turn a (turn b p) = turn (a + b) p := by
  have ha : a % 4 < 4 := Nat.mod_lt _ (by decide)
  have hb : b % 4 < 4 := Nat.mod_lt _ (by decide)
  obtain ⟨x, y⟩ := p
  have e : (a + b) % 4 = (a % 4 + b % 4) % 4 := Nat.add_mod _ _ _
  unfold turn
  rw [e]
  revert ha hb
  generalize a % 4 = u
  generalize b % 4 = v
  intro ha hb
  match u, v, ha, hb with
  | 0, 0, _, _ => rfl
  | 0, 1, _, _ => rfl
  | 0, 2, _, _ => rfl
  | 0, 3, _, _ => rfl
  | 1, 0, _, _ => rfl
  | 1, 1, _, _ => simp
  | 1, 2, _, _ => simp
  | 1, 3, _, _ => simp
  | 2, 0, _, _ => rfl
  | 2, 1, _, _ => simp
  | 2, 2, _, _ => simp
  | 2, 3, _, _ => simp
  | 3, 0, _, _ => rfl
  | 3, 1, _, _ => simp
  | 3, 2, _, _ => simp
  | 3, 3, _, _ => simp
def qq (r : Row) (b n : Nat) : Nat := 2 * r.m + 2 * cnt (fun i => r.z.testBit i && b.testBit i) n + cnt (fun i => r.x.testBit i && r.z.testBit i) n
def rowE (r : Row) (n : Nat) (e : Nat × Int × Int) : Nat × Int × Int := (e.1 ^^^ r.x, turn (qq r e.1 n) e.2)
def clr (b i : Nat) : Nat := b - (b.testBit i).toNat * 2 ^ i
def deedW (k : DK) (i j : Nat) (e : Nat × Int × Int) : List (Nat × Int × Int) :=
  match k with
  | .over => [(e.1 ^^^ 2 ^ i, e.2)]
  | .quarter => [(e.1, turn (e.1.testBit i).toNat e.2)]
  | .back => [(e.1, turn (3 * (e.1.testBit i).toNat) e.2)]
  | .both => [(clr e.1 i, e.2), (clr e.1 i + 2 ^ i, turn (2 * (e.1.testBit i).toNat) e.2)]
  | .wher => [(e.1 ^^^ (e.1.testBit i).toNat * 2 ^ j, e.2)]
  | .swap => [(clr (clr e.1 i) j + (e.1.testBit j).toNat * 2 ^ i + (e.1.testBit i).toNat * 2 ^ j, e.2)]
theorem add_xor {a t : Nat} (h : a &&& t = 0) : a + t = a ^^^ t := by
  have h1 := or_add_and a t
  have h2 := xor_add_and a t
  omega
theorem clr_xor (b i : Nat) : clr b i = b ^^^ (b.testBit i).toNat * 2 ^ i := by
  have h : (b ^^^ (b.testBit i).toNat * 2 ^ i) &&& ((b.testBit i).toNat * 2 ^ i) = 0 := by
    apply Nat.eq_of_testBit_eq
    intro k
    rw [Nat.testBit_and, Nat.testBit_xor, tb_mul, Nat.zero_testBit]
    by_cases e : i = k
    · subst e
      cases b.testBit i <;> simp
    · simp [e]
  have h2 := add_xor h
  rw [Nat.xor_assoc, Nat.xor_self, Nat.xor_zero] at h2
  unfold clr
  omega
theorem clr_tb (b i k : Nat) : (clr b i).testBit k = (!decide (i = k) && b.testBit k) := by
  rw [clr_xor, Nat.testBit_xor, tb_mul]
  by_cases e : i = k
  · subst e
    cases b.testBit i <;> simp
  · simp [e]
theorem add_bit {a i : Nat} {b : Bool} (h : a.testBit i = false) : a + b.toNat * 2 ^ i = a ^^^ b.toNat * 2 ^ i := by
  apply add_xor
  apply Nat.eq_of_testBit_eq
  intro k
  rw [Nat.testBit_and, tb_mul, Nat.zero_testBit]
  by_cases e : i = k
  · subst e
    simp [h]
  · simp [e]
theorem set_xor (b i : Nat) : clr b i + 2 ^ i = clr b i ^^^ 2 ^ i := by
  have h := add_bit (a := clr b i) (i := i) (b := true) (by rw [clr_tb]; simp)
  simpa using h
theorem swap_xor {b i j : Nat} (hij : i ≠ j) : clr (clr b i) j + (b.testBit j).toNat * 2 ^ i + (b.testBit i).toNat * 2 ^ j = ex b i j := by
  have h1 := add_bit (a := clr (clr b i) j) (i := i) (b := b.testBit j) (by rw [clr_tb, clr_tb]; simp)
  rw [h1]
  have h2 := add_bit (a := clr (clr b i) j ^^^ (b.testBit j).toNat * 2 ^ i) (i := j) (b := b.testBit i) (by rw [Nat.testBit_xor, clr_tb, tb_mul]; simp [hij])
  rw [h2]
  unfold ex
  apply Nat.eq_of_testBit_eq
  intro k
  simp only [Nat.testBit_xor, clr_tb, tb_mul]
  by_cases e : i = k
  · subst e
    simp only [Ne.symm hij, decide_true, decide_false, Bool.false_and, Bool.true_and, Bool.not_false, Bool.not_true, Bool.xor_false]
    cases b.testBit i <;> cases b.testBit j <;> rfl
  · by_cases e2 : j = k
    · subst e2
      simp only [e, decide_true, decide_false, Bool.false_and, Bool.true_and, Bool.not_false, Bool.not_true, Bool.xor_false]
      cases b.testBit i <;> cases b.testBit j <;> rfl
    · simp [e, e2]
theorem ex_tb {b i j k : Nat} (hij : i ≠ j) : (ex b i j).testBit k = if k = i then b.testBit j else if k = j then b.testBit i else b.testBit k := by
  unfold ex
  simp only [Nat.testBit_xor, tb_mul]
  by_cases e : k = i
  · subst e
    simp only [Ne.symm hij, decide_true, decide_false, Bool.false_and, Bool.true_and, Bool.xor_false, if_true]
    cases b.testBit k <;> cases b.testBit j <;> rfl
  · by_cases e2 : k = j
    · subst e2
      simp only [e, Ne.symm e, decide_true, decide_false, Bool.false_and, Bool.true_and, Bool.xor_false, if_true, if_false]
      cases b.testBit k <;> cases b.testBit i <;> rfl
    · simp [e, e2, Ne.symm e, Ne.symm e2]
theorem m_xor {m : Nat} (h : m ≤ 1) (b : Bool) : m ^^^ b.toNat = if b then 1 - m else m := by
  match m, h with
  | 0, _ => cases b <;> rfl
  | 1, _ => cases b <;> rfl
end Tw

set_option Elab.async false
set_option linter.all false
set_option maxRecDepth 100000
namespace Tw
theorem pr_eq {a c : Nat} {p q : Int × Int} (h1 : a = c) (h2 : p = q) : (a, p) = (c, q) := by rw [h1, h2]
theorem xor_rc (a b c : Nat) : a ^^^ b ^^^ c = a ^^^ c ^^^ b := by rw [Nat.xor_assoc, Nat.xor_comm b c, ← Nat.xor_assoc]
theorem tb_pow (i k : Nat) : (2 ^ i).testBit k = decide (i = k) := by simp [Nat.testBit_two_pow]
section
variable {i j n b : Nat} {r : Row}
theorem ph_over (ok : r.Ok n) (hi : i < n) : qq r b n % 4 = qq (actW .over i j r) (b ^^^ 2 ^ i) n % 4 := by
  have h := cnt_at (f := fun k => r.z.testBit k && (b ^^^ 2 ^ i).testBit k) (g := fun k => r.z.testBit k && b.testBit k) hi fun k _ hk => by
    simp only [Nat.testBit_xor, tb_pow]
    simp [Ne.symm hk]
  unfold qq actW
  dsimp only at h ⊢
  rw [m_xor ok.m]
  have hm := ok.m
  generalize cnt (fun k => r.z.testBit k && (b ^^^ 2 ^ i).testBit k) n = A at h ⊢
  generalize cnt (fun k => r.z.testBit k && b.testBit k) n = B at h ⊢
  generalize cnt (fun k => r.x.testBit k && r.z.testBit k) n = C at h ⊢
  simp only [Nat.testBit_xor, tb_pow, decide_true] at h
  clear ok
  generalize r.z.testBit i = v0 at h ⊢
  generalize b.testBit i = v1 at h ⊢
  cases v0 <;> cases v1 <;> simp only [Bool.true_and, Bool.false_and, Bool.and_true, Bool.and_false, Bool.xor_false, Bool.false_xor, Bool.true_xor, Bool.xor_true, Bool.not_true, Bool.not_false, Bool.toNat_true, Bool.toNat_false, if_true, if_false, Bool.false_eq_true, Bool.xor_self] at * <;> omega
theorem ph_q (ok : r.Ok n) (hi : i < n) : (((b ^^^ r.x).testBit i).toNat + qq r b n) % 4 = (qq (actW .quarter i j r) b n + (b.testBit i).toNat) % 4 := by
  have h := cnt_at (f := fun k => (r.z ^^^ (r.x.testBit i).toNat * 2 ^ i).testBit k && b.testBit k) (g := fun k => r.z.testBit k && b.testBit k) hi fun k _ hk => by
    simp only [Nat.testBit_xor, tb_mul]
    simp [Ne.symm hk]
  have h2 := cnt_at (f := fun k => r.x.testBit k && (r.z ^^^ (r.x.testBit i).toNat * 2 ^ i).testBit k) (g := fun k => r.x.testBit k && r.z.testBit k) hi fun k _ hk => by
    simp only [Nat.testBit_xor, tb_mul]
    simp [Ne.symm hk]
  unfold qq actW
  dsimp only at h h2 ⊢
  rw [m_xor ok.m]
  have hm := ok.m
  clear ok
  generalize cnt (fun k => (r.z ^^^ (r.x.testBit i).toNat * 2 ^ i).testBit k && b.testBit k) n = A at h h2 ⊢
  generalize cnt (fun k => r.z.testBit k && b.testBit k) n = B at h h2 ⊢
  generalize cnt (fun k => r.x.testBit k && (r.z ^^^ (r.x.testBit i).toNat * 2 ^ i).testBit k) n = C at h h2 ⊢
  generalize cnt (fun k => r.x.testBit k && r.z.testBit k) n = D at h h2 ⊢
  simp only [Nat.testBit_xor, tb_mul, decide_true, Bool.true_and] at h h2 ⊢
  generalize r.z.testBit i = v0 at h h2 ⊢
  generalize b.testBit i = v1 at h h2 ⊢
  generalize r.x.testBit i = v2 at h h2 ⊢
  cases v0 <;> cases v1 <;> cases v2 <;> simp only [Bool.true_and, Bool.false_and, Bool.and_true, Bool.and_false, Bool.xor_false, Bool.false_xor, Bool.true_xor, Bool.xor_true, Bool.not_true, Bool.not_false, Bool.toNat_true, Bool.toNat_false, if_true, if_false, Bool.false_eq_true, Bool.xor_self] at * <;> omega
theorem ph_b (ok : r.Ok n) (hi : i < n) : (3 * ((b ^^^ r.x).testBit i).toNat + qq r b n) % 4 = (qq (actW .back i j r) b n + 3 * (b.testBit i).toNat) % 4 := by
  have h := cnt_at (f := fun k => (r.z ^^^ (r.x.testBit i).toNat * 2 ^ i).testBit k && b.testBit k) (g := fun k => r.z.testBit k && b.testBit k) hi fun k _ hk => by
    simp only [Nat.testBit_xor, tb_mul]
    simp [Ne.symm hk]
  have h2 := cnt_at (f := fun k => r.x.testBit k && (r.z ^^^ (r.x.testBit i).toNat * 2 ^ i).testBit k) (g := fun k => r.x.testBit k && r.z.testBit k) hi fun k _ hk => by
    simp only [Nat.testBit_xor, tb_mul]
    simp [Ne.symm hk]
  unfold qq actW
  dsimp only at h h2 ⊢
  rw [m_xor ok.m]
  have hm := ok.m
  clear ok
  generalize cnt (fun k => (r.z ^^^ (r.x.testBit i).toNat * 2 ^ i).testBit k && b.testBit k) n = A at h h2 ⊢
  generalize cnt (fun k => r.z.testBit k && b.testBit k) n = B at h h2 ⊢
  generalize cnt (fun k => r.x.testBit k && (r.z ^^^ (r.x.testBit i).toNat * 2 ^ i).testBit k) n = C at h h2 ⊢
  generalize cnt (fun k => r.x.testBit k && r.z.testBit k) n = D at h h2 ⊢
  simp only [Nat.testBit_xor, tb_mul, decide_true, Bool.true_and] at h h2 ⊢
  generalize r.z.testBit i = v0 at h h2 ⊢
  generalize b.testBit i = v1 at h h2 ⊢
  generalize r.x.testBit i = v2 at h h2 ⊢
  cases v0 <;> cases v1 <;> cases v2 <;> simp only [Bool.true_and, Bool.false_and, Bool.and_true, Bool.and_false, Bool.xor_false, Bool.false_xor, Bool.true_xor, Bool.xor_true, Bool.not_true, Bool.not_false, Bool.toNat_true, Bool.toNat_false, if_true, if_false, Bool.false_eq_true, Bool.xor_self] at * <;> omega
theorem ph_h (ok : r.Ok n) (hi : i < n) (c : Bool) : ∀ B : Nat, (∀ k, B.testBit k = if k = i then c else b.testBit k) →
    (qq (actW .both i j r) B n + 2 * (r.z.testBit i && b.testBit i).toNat) % 4 = (qq r b n + 2 * (r.x.testBit i && c).toNat + 2 * (r.x.testBit i && r.z.testBit i).toNat) % 4 := by
  intro B hB
  have h := cnt_at (f := fun k => (r.z ^^^ (r.x.testBit i ^^ r.z.testBit i).toNat * 2 ^ i).testBit k && B.testBit k) (g := fun k => r.z.testBit k && b.testBit k) hi fun k _ hk => by
    simp only [Nat.testBit_xor, tb_mul, hB]
    simp [Ne.symm hk, hk]
  have h2 := cnt_at (f := fun k => (r.x ^^^ (r.x.testBit i ^^ r.z.testBit i).toNat * 2 ^ i).testBit k && (r.z ^^^ (r.x.testBit i ^^ r.z.testBit i).toNat * 2 ^ i).testBit k) (g := fun k => r.x.testBit k && r.z.testBit k) hi fun k _ hk => by
    simp only [Nat.testBit_xor, tb_mul]
    simp [Ne.symm hk]
  unfold qq actW
  dsimp only at h h2 ⊢
  rw [m_xor ok.m]
  have hm := ok.m
  clear ok
  generalize cnt (fun k => (r.z ^^^ (r.x.testBit i ^^ r.z.testBit i).toNat * 2 ^ i).testBit k && B.testBit k) n = A at h h2 ⊢
  generalize cnt (fun k => r.z.testBit k && b.testBit k) n = B1 at h h2 ⊢
  generalize cnt (fun k => (r.x ^^^ (r.x.testBit i ^^ r.z.testBit i).toNat * 2 ^ i).testBit k && (r.z ^^^ (r.x.testBit i ^^ r.z.testBit i).toNat * 2 ^ i).testBit k) n = C at h h2 ⊢
  generalize cnt (fun k => r.x.testBit k && r.z.testBit k) n = D at h h2 ⊢
  simp only [Nat.testBit_xor, tb_mul, decide_true, Bool.true_and, hB, if_true] at h h2 ⊢
  clear hB
  generalize r.z.testBit i = v0 at h h2 ⊢
  generalize b.testBit i = v1 at h h2 ⊢
  generalize r.x.testBit i = v2 at h h2 ⊢
  cases v0 <;> cases v1 <;> cases v2 <;> cases c <;> simp only [Bool.true_and, Bool.false_and, Bool.and_true, Bool.and_false, Bool.xor_false, Bool.false_xor, Bool.true_xor, Bool.xor_true, Bool.not_true, Bool.not_false, Bool.toNat_true, Bool.toNat_false, if_true, if_false, Bool.false_eq_true, Bool.xor_self] at * <;> omega
theorem ph_w (ok : r.Ok n) (hi : i < n) (hj : j < n) (hij : i ≠ j) : qq r b n % 4 = qq (actW .wher i j r) (b ^^^ (b.testBit i).toNat * 2 ^ j) n % 4 := by
  have h := cnt_at2 (f := fun k => (r.z ^^^ (r.z.testBit j).toNat * 2 ^ i).testBit k && (b ^^^ (b.testBit i).toNat * 2 ^ j).testBit k) (g := fun k => r.z.testBit k && b.testBit k) hi hj hij fun k _ hk hk2 => by
    simp only [Nat.testBit_xor, tb_mul]
    simp [Ne.symm hk, Ne.symm hk2]
  have h2 := cnt_at2 (f := fun k => (r.x ^^^ (r.x.testBit i).toNat * 2 ^ j).testBit k && (r.z ^^^ (r.z.testBit j).toNat * 2 ^ i).testBit k) (g := fun k => r.x.testBit k && r.z.testBit k) hi hj hij fun k _ hk hk2 => by
    simp only [Nat.testBit_xor, tb_mul]
    simp [Ne.symm hk, Ne.symm hk2]
  unfold qq actW
  dsimp only at h h2 ⊢
  rw [m_xor ok.m]
  have hm := ok.m
  clear ok
  generalize cnt (fun k => (r.z ^^^ (r.z.testBit j).toNat * 2 ^ i).testBit k && (b ^^^ (b.testBit i).toNat * 2 ^ j).testBit k) n = A at h h2 ⊢
  generalize cnt (fun k => r.z.testBit k && b.testBit k) n = B1 at h h2 ⊢
  generalize cnt (fun k => (r.x ^^^ (r.x.testBit i).toNat * 2 ^ j).testBit k && (r.z ^^^ (r.z.testBit j).toNat * 2 ^ i).testBit k) n = C at h h2 ⊢
  generalize cnt (fun k => r.x.testBit k && r.z.testBit k) n = D at h h2 ⊢
  simp only [Nat.testBit_xor, tb_mul, decide_true, Bool.true_and, hij, Ne.symm hij, decide_false, Bool.false_and, Bool.xor_false] at h h2 ⊢
  clear hij
  generalize r.z.testBit i = v0 at h h2 ⊢
  generalize b.testBit i = v1 at h h2 ⊢
  generalize r.x.testBit i = v2 at h h2 ⊢
  generalize r.z.testBit j = v3 at h h2 ⊢
  generalize b.testBit j = v4 at h h2 ⊢
  generalize r.x.testBit j = v5 at h h2 ⊢
  cases v0 <;> cases v1 <;> cases v2 <;> cases v3 <;> cases v4 <;> cases v5 <;> simp only [Bool.true_and, Bool.false_and, Bool.and_true, Bool.and_false, Bool.xor_false, Bool.false_xor, Bool.true_xor, Bool.xor_true, Bool.not_true, Bool.not_false, Bool.toNat_true, Bool.toNat_false, if_true, if_false, Bool.false_eq_true, Bool.xor_self] at * <;> omega
theorem ph_s (hi : i < n) (hj : j < n) (hij : i ≠ j) : qq r b n = qq (actW .swap i j r) (ex b i j) n := by
  have h := cnt_at2 (f := fun k => (ex r.z i j).testBit k && (ex b i j).testBit k) (g := fun k => r.z.testBit k && b.testBit k) hi hj hij fun k _ hk hk2 => by
    simp only [ex_tb hij, hk, hk2, if_false]
  have h2 := cnt_at2 (f := fun k => (ex r.x i j).testBit k && (ex r.z i j).testBit k) (g := fun k => r.x.testBit k && r.z.testBit k) hi hj hij fun k _ hk hk2 => by
    simp only [ex_tb hij, hk, hk2, if_false]
  unfold qq actW
  dsimp only at h h2 ⊢
  generalize cnt (fun k => (ex r.z i j).testBit k && (ex b i j).testBit k) n = A at h h2 ⊢
  generalize cnt (fun k => (ex r.x i j).testBit k && (ex r.z i j).testBit k) n = C at h h2 ⊢
  simp only [ex_tb hij, Ne.symm hij, if_true, if_false] at h h2
  omega
theorem core {k : DK} (ok : r.Ok n) (hi : i < n) (hj : k.n = 2 → j < n ∧ i ≠ j) (p : Int × Int) :
    deedW k i j (rowE r n (b, p)) = (deedW k i j (b, p)).map (rowE (actW k i j r) n) ∨ deedW k i j (rowE r n (b, p)) = ((deedW k i j (b, p)).map (rowE (actW k i j r) n)).reverse := by
  cases k with
  | over =>
    left
    simp only [deedW, rowE, List.map_cons, List.map_nil]
    rw [pr_eq (xor_rc b r.x (2 ^ i)) (turn_mod (ph_over (j := j) ok hi) p)]
    rfl
  | quarter =>
    left
    simp only [deedW, rowE, List.map_cons, List.map_nil, turn_turn]
    rw [pr_eq (rfl : b ^^^ r.x = b ^^^ r.x) (turn_mod (ph_q (j := j) ok hi) p)]
    rfl
  | back =>
    left
    simp only [deedW, rowE, List.map_cons, List.map_nil, turn_turn]
    rw [pr_eq (rfl : b ^^^ r.x = b ^^^ r.x) (turn_mod (ph_b (j := j) ok hi) p)]
    rfl
  | wher =>
    left
    obtain ⟨hj1, hij⟩ := hj rfl
    simp only [deedW, rowE, List.map_cons, List.map_nil]
    refine congrArg (fun x => [x]) (pr_eq ?_ (turn_mod (ph_w ok hi hj1 hij) p))
    unfold actW
    dsimp only
    apply Nat.eq_of_testBit_eq
    intro q
    simp only [Nat.testBit_xor, tb_mul]
    by_cases e : j = q
    · subst e
      simp only [decide_true, Bool.true_and]
      cases b.testBit i <;> cases r.x.testBit i <;> cases b.testBit j <;> cases r.x.testBit j <;> rfl
    · simp [e]
  | swap =>
    left
    obtain ⟨hj1, hij⟩ := hj rfl
    simp only [deedW, rowE, List.map_cons, List.map_nil, swap_xor hij]
    refine congrArg (fun x => [x]) (pr_eq ?_ (by rw [ph_s hi hj1 hij]))
    unfold actW
    dsimp only
    apply Nat.eq_of_testBit_eq
    intro q
    simp only [Nat.testBit_xor, ex_tb hij]
    by_cases e : q = i
    · simp [e]
    · by_cases e2 : q = j
      · subst e2
        simp [Ne.symm hij]
      · simp [e, e2]
  | both =>
    have t0 : ∀ q, (clr b i).testBit q = if q = i then false else b.testBit q := fun q => by
      rw [clr_tb]
      by_cases e : q = i
      · simp [e]
      · simp [e, Ne.symm e]
    have t1 : ∀ q, (clr b i + 2 ^ i).testBit q = if q = i then true else b.testBit q := fun q => by
      rw [set_xor, Nat.testBit_xor, clr_tb, tb_pow]
      by_cases e : q = i
      · simp [e]
      · simp [e, Ne.symm e]
    have p0 := ph_h (j := j) ok hi false (clr b i) t0
    have p1 := ph_h (j := j) ok hi true (clr b i + 2 ^ i) t1
    have k0 : ∀ c : Bool, ∀ B : Nat, (∀ q, B.testBit q = if q = i then c else b.testBit q) → ∀ q, (B ^^^ (r.x ^^^ (r.x.testBit i ^^ r.z.testBit i).toNat * 2 ^ i)).testBit q = if q = i then (c ^^ r.z.testBit i) else (b ^^^ r.x).testBit q := fun c B hB q => by
      simp only [Nat.testBit_xor, tb_mul, hB]
      by_cases e : q = i
      · subst e
        simp only [if_true, decide_true, Bool.true_and]
        cases c <;> cases r.x.testBit q <;> cases r.z.testBit q <;> rfl
      · simp [e, Ne.symm e]
    have l0 : ∀ q, (clr (b ^^^ r.x) i).testBit q = if q = i then false else (b ^^^ r.x).testBit q := fun q => by
      rw [clr_tb]
      by_cases e : q = i
      · simp [e]
      · simp [e, Ne.symm e]
    have l1 : ∀ q, (clr (b ^^^ r.x) i + 2 ^ i).testBit q = if q = i then true else (b ^^^ r.x).testBit q := fun q => by
      rw [set_xor, Nat.testBit_xor, clr_tb, tb_pow]
      by_cases e : q = i
      · simp [e]
      · simp [e, Ne.symm e]
    have keq : ∀ (c : Bool) (B : Nat), (∀ q, B.testBit q = if q = i then c else b.testBit q) → ∀ (L : Nat) (d : Bool), (∀ q, L.testBit q = if q = i then d else (b ^^^ r.x).testBit q) → d = (c ^^ r.z.testBit i) → L = B ^^^ (actW .both i j r).x := fun c B hB L d hL hd => by
      apply Nat.eq_of_testBit_eq
      intro q
      rw [hL, show (actW .both i j r).x = r.x ^^^ (r.x.testBit i ^^ r.z.testBit i).toNat * 2 ^ i from rfl, k0 c B hB, hd]
    simp only [deedW, rowE, List.map_cons, List.map_nil, turn_turn, List.reverse_cons, List.reverse_nil, List.nil_append, List.singleton_append]
    cases hz : r.z.testBit i with
    | false =>
      left
      rw [hz] at p0 p1
      refine congr (congrArg List.cons (pr_eq (keq false _ t0 _ false l0 (by rw [hz]; rfl)) (turn_mod ?_ p))) (congrArg (fun x => [x]) (pr_eq (keq true _ t1 _ true l1 (by rw [hz]; rfl)) (turn_mod ?_ p)))
      · simp only [Bool.false_and, Bool.and_false, Bool.toNat_false] at p0
        omega
      · simp only [Nat.testBit_xor, Bool.false_and, Bool.and_false, Bool.and_true, Bool.toNat_false] at p1 ⊢
        revert p1
        generalize qq (actW .both i j r) (clr b i + 2 ^ i) n = A
        generalize qq r b n = B
        cases b.testBit i <;> cases r.x.testBit i <;> simp only [Bool.toNat_true, Bool.toNat_false, Bool.false_xor, Bool.true_xor, Bool.not_true, Bool.not_false, Bool.xor_false] <;> intro p1 <;> omega
    | true =>
      right
      rw [hz] at p0 p1
      refine congr (congrArg List.cons (pr_eq (keq true _ t1 _ false l0 (by rw [hz]; rfl)) (turn_mod ?_ p))) (congrArg (fun x => [x]) (pr_eq (keq false _ t0 _ true l1 (by rw [hz]; rfl)) (turn_mod ?_ p)))
      · simp only [Bool.true_and, Bool.and_true] at p1
        revert p1
        generalize qq (actW .both i j r) (clr b i + 2 ^ i) n = A
        generalize qq r b n = B
        cases b.testBit i <;> cases r.x.testBit i <;> simp only [Bool.toNat_true, Bool.toNat_false] <;> intro p1 <;> omega
      · simp only [Nat.testBit_xor, Bool.true_and, Bool.and_false, Bool.and_true] at p0 ⊢
        revert p0
        generalize qq (actW .both i j r) (clr b i) n = A
        generalize qq r b n = B
        cases b.testBit i <;> cases r.x.testBit i <;> simp only [Bool.toNat_true, Bool.toNat_false, Bool.false_xor, Bool.true_xor, Bool.not_true, Bool.not_false, Bool.xor_false] <;> intro p0 <;> omega
end
end Tw

set_option Elab.async false
set_option linter.all false
set_option maxRecDepth 100000
namespace Tw
open PySem L2
theorem bit_lt {b : Bool} {i n : Nat} (h : i < n) : b.toNat * 2 ^ i < 2 ^ n := by
  have h1 : (2 : Nat) ^ i < 2 ^ n := Nat.pow_lt_pow_right (by decide) h
  have h2 := Nat.two_pow_pos n
  cases b
  · simpa using h2
  · simpa using h1
theorem m_le {m : Nat} (h : m ≤ 1) (b : Bool) : m ^^^ b.toNat ≤ 1 := by
  rw [m_xor h]
  cases b <;> simp <;> omega
theorem actW_ok {k : DK} {i j n : Nat} {r : Row} (ok : r.Ok n) (hi : i < n) (hj : k.n = 2 → j < n) : (actW k i j r).Ok n := by
  cases k with
  | over => exact ⟨m_le ok.m _, ok.x, ok.z⟩
  | quarter => exact ⟨m_le ok.m _, ok.x, xor_lt ok.z (bit_lt hi)⟩
  | back => exact ⟨m_le ok.m _, ok.x, xor_lt ok.z (bit_lt hi)⟩
  | both => exact ⟨m_le ok.m _, xor_lt ok.x (bit_lt hi), xor_lt ok.z (bit_lt hi)⟩
  | wher => exact ⟨m_le ok.m _, xor_lt ok.x (bit_lt (hj rfl)), xor_lt ok.z (bit_lt hi)⟩
  | swap => exact ⟨ok.m, xor_lt (xor_lt ok.x (bit_lt hi)) (bit_lt (hj rfl)), xor_lt (xor_lt ok.z (bit_lt hi)) (bit_lt (hj rfl))⟩
theorem actW_stays {k : DK} {i j q : Nat} {r : Row} (hi : i ≠ q) (hj : k.n = 2 → j ≠ q) : (actW k i j r).x.testBit q = r.x.testBit q ∧ (actW k i j r).z.testBit q = r.z.testBit q := by
  cases k with
  | over => exact ⟨rfl, rfl⟩
  | quarter => exact ⟨rfl, by simp only [actW, Nat.testBit_xor, tb_mul]; simp [hi]⟩
  | back => exact ⟨rfl, by simp only [actW, Nat.testBit_xor, tb_mul]; simp [hi]⟩
  | both => exact ⟨by simp only [actW, Nat.testBit_xor, tb_mul]; simp [hi], by simp only [actW, Nat.testBit_xor, tb_mul]; simp [hi]⟩
  | wher => exact ⟨by simp only [actW, Nat.testBit_xor, tb_mul]; simp [hj rfl], by simp only [actW, Nat.testBit_xor, tb_mul]; simp [hi]⟩
  | swap => exact ⟨by simp only [actW, ex, Nat.testBit_xor, tb_mul]; simp [hi, hj rfl], by simp only [actW, ex, Nat.testBit_xor, tb_mul]; simp [hi, hj rfl]⟩
theorem Dd.Ok.one {d : Dd} {n : Nat} (ok : d.Ok n) : d.w.getD 0 0 < n ∧ (d.k.n = 2 → d.w.getD 1 0 < n ∧ d.w.getD 0 0 ≠ d.w.getD 1 0) ∧ d.w.getD 0 0 ∈ d.w ∧ (d.k.n = 2 → d.w.getD 1 0 ∈ d.w) := by
  obtain ⟨k, w⟩ := d
  have hl := ok.len
  have hp := k.n_pos
  have hlt := ok.lt
  have hnd := ok.nd
  dsimp only at hl hlt hnd ⊢
  rcases Nat.lt_or_ge k.n 2 with h | h
  · obtain ⟨i, rfl⟩ := one_wire (w := w) (by omega)
    exact ⟨hlt i (by simp), fun z => by omega, by simp, fun z => by omega⟩
  · obtain ⟨i, j, rfl⟩ := two_wires (w := w) (by omega)
    have hij : i ≠ j := by
      intro z
      subst z
      simp at hnd
    exact ⟨hlt i (by simp), fun _ => ⟨hlt j (by simp), hij⟩, by simp, fun _ => by simp⟩
theorem act_ok {d : Dd} {n : Nat} {r : Row} (ok : r.Ok n) (hd : d.Ok n) : (act d r).Ok n := actW_ok ok hd.one.1 fun e => (hd.one.2.1 e).1
theorem act_stays {d : Dd} {n q : Nat} {r : Row} (hd : d.Ok n) (h : q ∉ d.w) : (act d r).x.testBit q = r.x.testBit q ∧ (act d r).z.testBit q = r.z.testBit q :=
  actW_stays (fun z => h (z ▸ hd.one.2.2.1)) fun e z => h (z ▸ hd.one.2.2.2 e)
end Tw

set_option Elab.async false
set_option linter.all false
set_option maxRecDepth 100000
namespace Tw
open PySem L2
abbrev Wh := List (Nat × Int × Int)
inductive WR (K : PySem.W.Frag) (H : Hp) : Wh → List (Key × V) → Prop
  | nil : WR K H [] []
  | cons {b : Nat} {p : Int × Int} {a : Addr} {ws : Wh} {kvs : List (Key × V)} : SqT K H a [.int p.1, .int p.2] → WR K H ws kvs → WR K H ((b, p) :: ws) ((.inl ((b : Nat) : Int), .ref a) :: kvs)
def wat (ws : Wh) (b : Nat) : Option (Int × Int) := (ws.find? fun e => decide (e.1 = b)).map (·.2)
def wput (ws : Wh) (b : Nat) (p : Int × Int) : Wh := if ws.any (fun e => decide (e.1 = b)) then ws.map (fun e => if e.1 = b then (e.1, p) else e) else ws ++ [(b, p)]
section
variable {K : PySem.W.Frag} {H H' : Hp} {ws : Wh} {kvs : List (Key × V)}
theorem WR.stay (h : WR K H ws kvs) (s : ∀ a xs, SqT K H a xs → SqT K H' a xs) : WR K H' ws kvs := by
  induction h with
  | nil => exact .nil
  | cons q _ ih => exact .cons (s _ _ q) ih
theorem WR.len (h : WR K H ws kvs) : kvs.length = ws.length := by
  induction h with
  | nil => rfl
  | cons q _ ih => simp [ih]
theorem key_eq {a b : Nat} : ((Sum.inl ((a : Nat) : Int) : Key) = .inl ((b : Nat) : Int)) ↔ a = b := by
  constructor
  · intro h
    exact Int.ofNat_inj.mp (Sum.inl.inj h)
  · rintro rfl
    rfl
theorem WR.val (h : WR K H ws kvs) (b : Nat) : (valV kvs (.inl ((b : Nat) : Int)) = none ∧ wat ws b = none) ∨ ∃ a p, valV kvs (.inl ((b : Nat) : Int)) = some (.ref a) ∧ SqT K H a [.int p.1, .int p.2] ∧ wat ws b = some p := by
  induction h with
  | nil => exact .inl ⟨rfl, rfl⟩
  | @cons c p a ws kvs q _ ih =>
    by_cases e : c = b
    · subst e
      refine .inr ⟨a, p, valV_pos rfl, q, ?_⟩
      unfold wat
      rw [List.find?_cons, decide_eq_true rfl]
      rfl
    · have e1 : ¬ (Sum.inl ((c : Nat) : Int) : Key) = .inl ((b : Nat) : Int) := fun z => e (key_eq.mp z)
      have e2 : wat ((c, p) :: ws) b = wat ws b := by
        unfold wat
        rw [List.find?_cons, decide_eq_false e]
      rw [e2, valV_neg e1]
      exact ih
theorem WR.any (h : WR K H ws kvs) (b : Nat) : (kvs.any fun kv => decide (kv.1 = .inl ((b : Nat) : Int))) = ws.any fun e => decide (e.1 = b) := by
  induction h with
  | nil => rfl
  | @cons c p a ws kvs q _ ih =>
    rw [List.any_cons, List.any_cons, ih]
    congr 1
    by_cases e : c = b
    · subst e
      rw [decide_eq_true rfl, decide_eq_true rfl]
    · rw [decide_eq_false e, decide_eq_false fun z => e (key_eq.mp z)]
theorem WR.snoc (h : WR K H ws kvs) {b : Nat} {p : Int × Int} {a : Addr} (q : SqT K H a [.int p.1, .int p.2]) : WR K H (ws ++ [(b, p)]) (kvs ++ [(.inl ((b : Nat) : Int), .ref a)]) := by
  induction h with
  | nil => exact .cons q .nil
  | cons q' _ ih => exact .cons q' ih
theorem WR.repl (h : WR K H ws kvs) {b : Nat} {p : Int × Int} {a : Addr} (q : SqT K H a [.int p.1, .int p.2]) : WR K H (ws.map fun e => if e.1 = b then (e.1, p) else e) (kvs.map fun kv => if kv.1 = .inl ((b : Nat) : Int) then (kv.1, .ref a) else kv) := by
  induction h with
  | nil => exact .nil
  | @cons c p' a' ws kvs q' _ ih =>
    rw [List.map_cons, List.map_cons]
    by_cases e : c = b
    · subst e
      rw [if_pos rfl, if_pos rfl]
      exact .cons q ih
    · rw [if_neg e, if_neg fun z => e (key_eq.mp z)]
      exact .cons q' ih
theorem WR.put (h : WR K H ws kvs) {b : Nat} {p : Int × Int} {a : Addr} (q : SqT K H a [.int p.1, .int p.2]) : WR K H (wput ws b p) (putK kvs (.inl ((b : Nat) : Int)) (.ref a)) := by
  unfold wput putK
  rw [h.any b]
  split
  · exact h.repl q
  · exact h.snoc q
theorem WR.get (h : WR K H ws kvs) : ∀ {i : Nat} {k : Key} {v : V}, kvs[i]? = some (k, v) → ∃ b p a, ws[i]? = some (b, p) ∧ k = .inl ((b : Nat) : Int) ∧ v = .ref a ∧ SqT K H a [.int p.1, .int p.2] := by
  induction h with
  | nil => intro i k v e; simp at e
  | @cons c p a ws kvs q _ ih =>
    intro i k v e
    cases i with
    | zero =>
      simp only [List.getElem?_cons_zero, Option.some.injEq, Prod.mk.injEq] at e
      exact ⟨c, p, a, rfl, e.1.symm, e.2.symm, q⟩
    | succ i =>
      rw [List.getElem?_cons_succ] at e ⊢
      exact ih e
def wd (ws : Wh) : Key → PyData
  | .inl i => pairD ((wat ws i.toNat).getD (0, 0))
  | .inr _ => pairD (0, 0)
theorem wat_cons {c b : Nat} {p : Int × Int} (e : c ≠ b) : wat ((c, p) :: ws) b = wat ws b := by
  unfold wat
  rw [List.find?_cons, decide_eq_false e]
theorem wat_hd {c : Nat} {p : Int × Int} : wat ((c, p) :: ws) c = some p := by
  unfold wat
  rw [List.find?_cons, decide_eq_true rfl]
  rfl
theorem wd_flat (ws : Wh) (k : Key) : Flat8 (wd ws k) := by
  cases k with
  | inl i => exact pair_flat _
  | inr x => exact pair_flat _
theorem WR.dv (h : WR K H ws kvs) (nd : (ws.map (·.1)).Nodup) : ∀ k x, (k, x) ∈ kvs → DV K H x (wd ws k) ∧ Flat8 (wd ws k) := by
  suffices s : ∀ k x, (k, x) ∈ kvs → ∃ b a p, k = .inl ((b : Nat) : Int) ∧ x = .ref a ∧ b ∈ ws.map (·.1) ∧ wat ws b = some p ∧ SqT K H a [.int p.1, .int p.2] by
    intro k x hx
    obtain ⟨b, a, p, rfl, rfl, _, e, q⟩ := s k x hx
    refine ⟨?_, wd_flat _ _⟩
    show DV K H (.ref a) (pairD ((wat ws ((b : Nat) : Int).toNat).getD (0, 0)))
    rw [Int.toNat_natCast, e]
    exact pair_dv q
  induction h with
  | nil => intro k x hx; cases hx
  | @cons c p a ws kvs q _ ih =>
    rw [List.map_cons, List.nodup_cons] at nd
    intro k x hx
    rcases List.mem_cons.mp hx with e | hx
    · cases e
      exact ⟨c, a, p, rfl, rfl, by simp, wat_hd, q⟩
    · obtain ⟨b, a', p', rfl, rfl, hb, e, q'⟩ := ih nd.2 k x hx
      refine ⟨b, a', p', rfl, rfl, by simp [hb], ?_, q'⟩
      rw [wat_cons (c := c) (b := b) fun z => nd.1 (by show c ∈ _; rw [z]; exact hb)]
      exact e
theorem WR.same {ws2 : Wh} {kvs2 : List (Key × V)} (h : WR K H ws kvs) (h2 : WR K H ws2 kvs2) (hl : ws.length = ws2.length) (hw : ∀ b, wat ws b = wat ws2 b) (hn : ∀ b ∈ ws.map (·.1), (wat ws b).isSome = true) : sameD kvs kvs2 (wd ws) (wd ws2) = true := by
  unfold sameD
  rw [Bool.and_eq_true]
  refine ⟨decide_eq_true (by rw [h.len, h2.len, hl]), List.all_eq_true.mpr fun kv hkv => ?_⟩
  obtain ⟨i, hi⟩ := List.getElem?_of_mem hkv
  obtain ⟨b, p, a, e1, e2, e3, _⟩ := h.get (k := kv.1) (v := kv.2) hi
  have hb : b ∈ ws.map (·.1) := List.mem_map.mpr ⟨(b, p), List.mem_of_getElem? e1, rfl⟩
  rw [e2, Bool.and_eq_true]
  constructor
  · have hs := hn b hb
    rw [hw b] at hs
    rcases h2.val b with ⟨_, q⟩ | ⟨a2, p2, q, _⟩
    · rw [q] at hs; cases hs
    · rw [q]; rfl
  · have e : wd ws (.inl ((b : Nat) : Int)) = wd ws2 (.inl ((b : Nat) : Int)) := by
      unfold wd
      dsimp only
      rw [Int.toNat_natCast, hw b]
    rw [e]
    unfold wd
    dsimp only
    rw [pair_eqv]
    exact decide_eq_true rfl
end
end Tw

set_option Elab.async false
set_option linter.all false
set_option maxRecDepth 100000
namespace Tw
open PySem L2
theorem in_vn (q : Nat) : ∀ l : List Nat, inV (.int (q : Int)) (vn l) = decide (q ∈ l)
  | [] => by simp [inV, vn]
  | x :: l => by
    have ih := in_vn q l
    unfold inV vn at ih ⊢
    rw [List.map_cons, List.any_cons, ih]
    by_cases e : q = x
    · subst e
      simp [eqV]
    · have e1 : ((x : Nat) : Int) ≠ ((q : Nat) : Int) := fun z => e (Int.ofNat_inj.mp z).symm
      have e2 : eqV (.int ((x : Nat) : Int)) (.int ((q : Nat) : Int)) = false := by
        show (((x : Nat) : Int) == ((q : Nat) : Int)) = false
        exact beq_eq_false_iff_ne.mpr e1
      rw [e2]
      simp [e]
def wadd (ws : Wh) (b : Nat) (p : Int × Int) : Wh := wput ws b (((wat ws b).getD (0, 0)).1 + p.1, ((wat ws b).getD (0, 0)).2 + p.2)
def adds (ws es : Wh) : Wh := es.foldl (fun acc e => wadd acc e.1 e.2) ws
theorem wadd_new {ws : Wh} {b : Nat} {p : Int × Int} (h : ∀ e ∈ ws, e.1 ≠ b) : wadd ws b p = ws ++ [(b, p)] := by
  have h1 : (ws.any fun e => decide (e.1 = b)) = false := by
    rw [List.any_eq_false]
    intro e he
    simp [h e he]
  have h2 : wat ws b = none := by
    unfold wat
    rw [List.find?_eq_none.mpr]
    · rfl
    · intro e he
      simp [h e he]
  unfold wadd wput
  rw [h1, h2]
  simp
theorem wput_new {ws : Wh} {b : Nat} {p : Int × Int} (h : ∀ e ∈ ws, e.1 ≠ b) : wput ws b p = ws ++ [(b, p)] := by
  have h1 : (ws.any fun e => decide (e.1 = b)) = false := by
    rw [List.any_eq_false]
    intro e he
    simp [h e he]
  unfold wput
  rw [h1]
  simp
theorem adds_deedW (k : DK) (i j : Nat) (e : Nat × Int × Int) : adds [] (deedW k i j e) = deedW k i j e := by
  have one : ∀ b p, adds [] [(b, p)] = [(b, p)] := fun b p => (wadd_new (ws := []) (b := b) (p := p) (by simp) : wadd [] b p = [(b, p)])
  cases k with
  | over => exact one _ _
  | quarter => exact one _ _
  | back => exact one _ _
  | wher => exact one _ _
  | swap => exact one _ _
  | both =>
    show wadd (wadd [] _ _) _ _ = _
    rw [wadd_new (ws := []) (by simp), wadd_new]
    · rfl
    · intro e' he'
      have h2 := Nat.two_pow_pos i
      simp at he'
      rw [he']
      show clr e.1 i ≠ clr e.1 i + 2 ^ i
      omega
def deedF (d : Dd) (ws : Wh) : Wh := ws.foldl (fun acc e => adds acc (deedW d.k (d.w.getD 0 0) (d.w.getD 1 0) e)) []
def rowF (r : Row) (n : Nat) (ws : Wh) : Wh := ws.foldl (fun acc e => wput acc (rowE r n e).1 (rowE r n e).2) []
theorem xor_inj {a b c : Nat} (h : a ^^^ c = b ^^^ c) : a = b := by
  have := congrArg (· ^^^ c) h
  simpa [Nat.xor_assoc] using this
theorem rowF_deedW (r : Row) (n : Nat) (k : DK) (i j : Nat) (e : Nat × Int × Int) : rowF r n (deedW k i j e) = (deedW k i j e).map (rowE r n) := by
  have one : ∀ x, rowF r n [x] = [rowE r n x] := fun x => (wput_new (ws := []) (b := (rowE r n x).1) (p := (rowE r n x).2) (by simp) : wput [] (rowE r n x).1 (rowE r n x).2 = [rowE r n x])
  cases k with
  | over => exact one _
  | quarter => exact one _
  | back => exact one _
  | wher => exact one _
  | swap => exact one _
  | both =>
    show wput (wput [] _ _) _ _ = _
    rw [wput_new (ws := []) (by simp), wput_new]
    · rfl
    · intro e' he'
      have h2 := Nat.two_pow_pos i
      simp at he'
      rw [he']
      intro z
      have := xor_inj z
      omega
theorem deedW_keys (r : Row) (n : Nat) (k : DK) (i j : Nat) (e : Nat × Int × Int) : (((deedW k i j e).map (rowE r n)).map (·.1)).Nodup := by
  cases k with
  | both =>
    have h2 := Nat.two_pow_pos i
    simp only [deedW, List.map_cons, List.map_nil, List.nodup_cons, List.mem_cons, List.not_mem_nil, or_false, List.nodup_nil, and_true, not_false_eq_true]
    intro z
    have := xor_inj z
    omega
  | _ => simp [deedW]
theorem wat_rev {x y : Nat × Int × Int} (h : x.1 ≠ y.1) (b : Nat) : wat [x, y] b = wat [y, x] b := by
  obtain ⟨a, p⟩ := x
  obtain ⟨c, q⟩ := y
  dsimp only at h
  by_cases e : a = b
  · subst e
    rw [wat_hd, wat_cons (Ne.symm h), wat_hd]
  · rw [wat_cons e]
    by_cases e2 : c = b
    · subst e2
      rw [wat_hd, wat_hd]
    · rw [wat_cons e2, wat_cons e2, wat_cons e]
theorem nodup_rev {α : Type} {l : List α} (h : l.Nodup) : l.reverse.Nodup := (List.reverse_perm l).symm.nodup h
theorem wat_mem {ws : Wh} {b : Nat} (h : b ∈ ws.map (·.1)) : (wat ws b).isSome = true := by
  obtain ⟨e, he, rfl⟩ := List.mem_map.mp h
  unfold wat
  rw [Option.isSome_map, List.find?_isSome]
  exact ⟨e, he, by simp⟩
theorem ways {d : Dd} {r : Row} {n b : Nat} (ok : r.Ok n) (hd : d.Ok n) : (deedF d (rowF r n [(b, (1, 0))])).length = (rowF (act d r) n (deedF d [(b, (1, 0))])).length ∧
    (∀ c, wat (deedF d (rowF r n [(b, (1, 0))])) c = wat (rowF (act d r) n (deedF d [(b, (1, 0))])) c) ∧ ((deedF d (rowF r n [(b, (1, 0))])).map (·.1)).Nodup ∧ ((rowF (act d r) n (deedF d [(b, (1, 0))])).map (·.1)).Nodup := by
  have e1 : rowF r n [(b, (1, 0))] = [rowE r n (b, (1, 0))] := (wput_new (ws := []) (b := (rowE r n (b, (1, 0))).1) (p := (rowE r n (b, (1, 0))).2) (by simp) : wput [] (rowE r n (b, (1, 0))).1 (rowE r n (b, (1, 0))).2 = [rowE r n (b, (1, 0))])
  have e2 : ∀ x, deedF d [x] = deedW d.k (d.w.getD 0 0) (d.w.getD 1 0) x := fun x => adds_deedW _ _ _ _
  rw [e1, e2, e2, rowF_deedW]
  have nd := deedW_keys (act d r) n d.k (d.w.getD 0 0) (d.w.getD 1 0) (b, (1, 0))
  have c := core (b := b) (k := d.k) ok hd.one.1 hd.one.2.1 (1, 0)
  unfold act at nd ⊢
  revert nd c
  generalize hW : (deedW d.k (d.w.getD 0 0) (d.w.getD 1 0) (b, (1, 0))).map (rowE (actW d.k (d.w.getD 0 0) (d.w.getD 1 0) r) n) = W
  have hl : W.length ≤ 2 := by
    rw [← hW, List.length_map]
    cases d.k <;> simp [deedW]
  generalize deedW d.k (d.w.getD 0 0) (d.w.getD 1 0) (rowE r n (b, (1, 0))) = U
  intro nd c
  rcases c with rfl | rfl
  · exact ⟨rfl, fun _ => rfl, nd, nd⟩
  · refine ⟨List.length_reverse, ?_, by rw [List.map_reverse]; exact nodup_rev nd, nd⟩
    match W, hl, nd with
    | [], _, _ => intro c; rfl
    | [x], _, _ => intro c; rfl
    | [x, y], _, nd =>
      intro c
      refine (wat_rev ?_ c).symm
      intro z
      simp [z] at nd
end Tw
namespace L2
open PySem
def rDisp (p : Addr) (x y : V) (H2 : Hp) (Q : VK) : Prop := H2 p = some (.dK []) ∧ ∃ kvs : List (Key × V), [(x, y)] = kvs.map (fun kv => (kV kv.1, kv.2)) ∧ kvs.length ≤ 15 ∧ Q (.ref p) (upd H2 p (.dK (mergeK [] kvs)))
theorem st_disp1 {tk tv : TE} {σ : St} {H : Hp} {Q : VK} (h : ∀ p, H p = none → tk σ (upd H p (.dK [])) fun x H1 => tv σ H1 fun y H2 => rDisp p x y H2 Q) : tDisp [(tk, tv)] σ H Q := h
theorem st_disp2 {H : Hp} {Q : VK} {p : Addr} {i : Int} {y : V} (h : H p = some (.dK [])) (q : Q (.ref p) (upd H p (.dK [(.inl i, y)]))) : rDisp p (.int i) y H Q := ⟨h, [(.inl i, y)], rfl, Nat.le_of_ble_eq_true rfl, q⟩
def sForT (K : PySem.W.Frag) (g : TG) (tb : TS) (D : Ends) (σ : St) : V → Hp → Prop := fun x H => ∃ a, x = .ref a ∧ (∃ xs, SqT K H a xs) ∧ ∃ W : Nat → Nat → St → Hp → Prop, (∃ m, W 0 m σ H) ∧ ∀ i m σ H, W i m σ H →
  ((Itt K a).stop i H ∧ D.nx σ H) ∨ ((Itt K a).go i H ∧ ∃ N : St → Hp → Prop, (∀ σ' H', N σ' H' → ∃ m', m' < m ∧ W (i + 1) m' σ' H') ∧ ∀ x H', (Itt K a).yld i H x H' → g x σ H' fun σ2 H2 => tb { D with nx := N, ct := N, bk := D.nx } σ2 H2)
section
variable {K : PySem.W.Frag} {H : Hp} {D : Ends} {σ : St} {g : TG} {tb : TS} {a : Addr} {xs : List V}
theorem st_forTE {tl : TE} (h : tl σ H (sForT K g tb D σ)) : tFor (iTup K tl) g tb D σ H := h
theorem st_forTAt (s : SqT K H a xs) (Pv : Nat → St → Hp → Prop) (h0 : Pv 0 σ H) (hl : ∀ i σ H, i ≤ xs.length → Pv i σ H → SqT K H a xs)
    (hs : ∀ i x σ H, xs[i]? = some x → Pv i σ H → g x σ H fun σ2 H2 => tb { D with nx := Pv (i + 1), ct := Pv (i + 1), bk := D.nx } σ2 H2) (hd : ∀ σ H, Pv xs.length σ H → D.nx σ H) : sForT K g tb D σ (.ref a) H :=
  ⟨a, rfl, ⟨xs, s⟩, for_tup Pv h0 hl hs hd⟩
end
end L2

set_option Elab.async false
set_option linter.all false
set_option maxRecDepth 100000
namespace L2
open PySem PySem.Spec PyProof.Rows
section
variable {X : Cx}
def rSum (K : PySem.W.Frag) : List V → Hp → VK → Prop := fun xs H Q => ∃ (p : Addr) (ns : List Int), xs = [.ref p] ∧ SqL K H p (ns.map V.int) ∧ Q (.int ns.sum) H
theorem call_sumL (hc : X.calm = true) : CallR X (.builtin "sum") (rSum X.K) := by
  intro pins s σ H xs us Q I r h
  obtain ⟨p, ns, rfl, hs, q⟩ := h
  obtain ⟨u, rfl, ru⟩ := vals1 r
  cases ru
  obtain ⟨its, ri, pl, _⟩ := I.list hs
  obtain ⟨xs, e1, e2⟩ := ints_items ri
  have hl : s.heap.IsList p (intItems xs) := by rw [← e1]; exact pl.isList
  refine sum_intListG (I.ok.hd hc) hl fun h' tk t' hk => ⟨.int ns.sum, H, I.kept (t' := tk) hk, ⟨t', ?_⟩, q⟩
  rw [preSum_eq, List.take_of_length_le (by simp), ← e2]
def Itv (a : Addr) (o : Obj) (kvs : List (Key × V)) : It :=
  ⟨fun i H => H a = some (.frz o (.dK kvs)) ∧ i < kvs.length, fun i H x H' => H' = H ∧ ∃ k, kvs[i]? = some (k, x), fun i H => H a = some (.frz o (.dK kvs)) ∧ kvs.length ≤ i⟩
end
theorem turn_vals {P : Program} {w : World} {K : PySem.W.Frag} {tg : Expr} (a it : Addr) (o : Obj) (kvs : List (Key × V)) {es : Array DictEntry} {ep : Nat} (hep : o.data = .dict es ep) :
    Turn P w K tg (Itv a o kvs) [it] it (fun i h => h.IsValIter it a i kvs.length ep ∧ i ≤ kvs.length) where
  mem := by simp
  obj := fun i h st b hb => by
    have e : b = it := by simpa using hb
    subst e
    obtain ⟨⟨ob, q, _, qd⟩, _⟩ := st
    exact ⟨ob, q, fun v z => by rw [qd] at z; cases z⟩
  keep := fun i h h' st k => by
    obtain ⟨⟨ob, q, r⟩, l⟩ := st
    exact ⟨⟨ob, k it (by simp) _ q, r⟩, l⟩
  item := by
    intro X hP hw hK hc i pins s σ H E I hf st hg
    subst hP hw hK
    obtain ⟨hz, hi⟩ := hg
    obtain ⟨f0, f1, f2, f3, f4, f5⟩ := hf it (by simp)
    obtain ⟨hit, _⟩ := st
    obtain ⟨go, _, _, vs, rel, o', es', ep', g', ex, hd', r'⟩ := (show ObjOk X.prog X.w H s.heap a (.frz o (.dK kvs)) from I.hok a _ hz)
    rw [go] at g'; cases g'
    rw [hep] at hd'; cases hd'
    have hm : s.heap.DictAt (mixKind X.prog X.w) a vs ep := ⟨o, es, go, ex, hep, r'⟩
    have hl : vs.length = kvs.length := rel.length.symm
    obtain ⟨k, x, hx⟩ : ∃ k x, kvs[i]? = some (k, x) := ⟨_, _, List.getElem?_eq_getElem hi⟩
    obtain ⟨v, hv, rv⟩ := kv_get rel hx
    rw [← hl] at hit
    refine wpAny_pyNext_values_item (knd := mixKind X.prog X.w) hit hm hv fun h' hit' hs' => ⟨_, rfl, ?_⟩
    obtain ⟨o2, q2, c2, d2⟩ := id hit'
    refine go_of (s := { s with heap := h' }) q2 c2 d2 (by decide) ⟨x, H, I.turned (t' := s.toks) (fun b o hb e => hs'.extBut b o hb e) f0 f1 f3 f4 f5, rv, ⟨rfl, k, hx⟩, ⟨by rw [← hl]; exact hit', hi⟩, fun b hb => ?_⟩
    have e : b = it := by simpa using hb
    subst e
    exact f0
  done := by
    intro X hP hw hK hc i pins s σ H E I hf st hg
    subst hP hw hK
    obtain ⟨hz, hi⟩ := hg
    obtain ⟨f0, f1, f2, f3, f4, f5⟩ := hf it (by simp)
    obtain ⟨hit, _⟩ := st
    obtain ⟨go, _, _, vs, rel, o', es', ep', g', ex, hd', r'⟩ := (show ObjOk X.prog X.w H s.heap a (.frz o (.dK kvs)) from I.hok a _ hz)
    rw [go] at g'; cases g'
    rw [hep] at hd'; cases hd'
    have hm : s.heap.DictAt (mixKind X.prog X.w) a vs ep := ⟨o, es, go, ex, hep, r'⟩
    have hl : vs.length = kvs.length := rel.length.symm
    rw [← hl] at hit
    exact wpAny_pyNext_values_end (knd := mixKind X.prog X.w) (I.ok.hd hc) hit hm (List.getElem?_eq_none (by omega)) fun h' eb => ⟨rfl, I.turned (t' := s.toks) (fun b o hb e => eb b o (by simpa using hb) e) f0 f1 f3 f4 f5⟩
  self := fun _ _ _ _ _ st h => by
    exact wpAny_pyIter_valiter st.1 h
section
variable {X : Cx}
def iVals (tl : TE) : TI := fun σ H R => tl σ H fun x H1 => ∃ a kvs, x = .ref a ∧ ((H1 a = some (.dK kvs) ∧ ∀ o, R (Itv a o kvs) (upd H1 a (.frz o (.dK kvs)))) ∨ ∃ o, H1 a = some (.frz o (.dK kvs)) ∧ R (Itv a o kvs) H1)
theorem pi_vals {tg : Expr} {l : Expr} {tl : TE} {apos cpos : Pos} (hl : PE X l tl) (hbase : attributeBase l "values" X.env (eval l X.env) = eval l X.env := by rfl) (hline : (apos.endLine == cpos.line) = true := by rfl) :
    PI X tg (.Call (.Attribute l "values" apos) [] [] cpos) (iVals tl) := by
  intro pins s σ H R I h
  refine wpAny_Call_method0_late hbase hline (thn (hl pins s σ H _ I h) fun v s1 ⟨x, H1, I1, r1, q1⟩ => ?_)
  obtain ⟨a, kvs, rfl, q⟩ := q1
  cases r1
  have rd : Rd H1 a (.dK kvs) := by
    rcases q with ⟨e, _⟩ | ⟨o, e, _⟩
    · exact .inl e
    · exact .inr ⟨o, e⟩
  obtain ⟨z, hsy, vs, rel, dd⟩ := dk_rd I1.hok rd
  obtain ⟨o, es, ep, go, ex, hd, r'⟩ := id dd
  refine ⟨"dict", "dict.values", PySem.F.plainAttrs_dict, PySem.F.slot_dict_values, PySem.F.type_dict_values, ⟨o, go, ex.1⟩, fun b e => by cases e; exact ⟨o, go, ex.2.1⟩, Calls.callWith_builtin rfl (PySem.evalArgs_none ?_)⟩
  refine call_meetsIn PySem.F.slot_dict_values dd.typeIs PySem.F.entry_dict_values (PySem.F.args_dict_values_1 _) (meets_dict_values (mixKind X.prog X.w) a hsy) ⟨⟨vs, dd⟩, ?_⟩
  have I2 : Inv X pins σ H1 { s1 with heap := s1.heap.push { cls := .type "dict_values", data := .fields #[.ref a] } } := I1.kept (t' := s1.toks) fun b ob e => Heap.get?_push_of_some _ e
  have hm : s1.heap.DictAt (mixKind X.prog X.w) a vs ep := ⟨o, es, go, ex, hd, r'⟩
  refine wpAny_pyIter_values (knd := mixKind X.prog X.w) (d := a) (kvs := vs) (ep := ep) ⟨_, Heap.get?_push_size _ rfl, rfl, rfl⟩ (hm.push _) ?_
  dsimp only
  generalize hG : s1.heap.push { cls := .type "dict_values", data := .fields #[.ref a] } = G at I2 ⊢
  have goG : G.get? a = some o := by rw [← hG]; exact Heap.get?_push_of_some _ go
  have I3 : ∀ H2, Inv X pins σ H2 { s1 with heap := G } → Inv X pins σ H2 { s1 with heap := G.push { cls := .type "dict_valueiterator", data := .fields #[.ref a, .int 0 0, .int vs.length 0, .int ep 0] } } := fun H2 J => J.kept (t' := s1.toks) fun b ob e => Heap.get?_push_of_some _ e
  have hln : vs.length = kvs.length := rel.length.symm
  have st : ∀ i, i = 0 → (G.push { cls := .type "dict_valueiterator", data := .fields #[.ref a, .int 0 0, .int vs.length 0, .int ep 0] }).IsValIter G.objs.size a i kvs.length ep ∧ i ≤ kvs.length := fun i hi => by
    subst hi
    refine ⟨⟨_, Heap.get?_push_size _ rfl, rfl, ?_⟩, Nat.zero_le _⟩
    rw [hln]
    rfl
  rcases q with ⟨e, q⟩ | ⟨o2, e, q⟩
  · have J := I2.freeze e goG
    refine ⟨G.objs.size, [G.objs.size], _, _, _, rfl, I3 _ J, turn_vals a _ o kvs hd, st 0 rfl, fun b hb => ?_, q o⟩
    have e : b = G.objs.size := by simpa using hb
    subst e
    exact J.fpOk (Nat.le_refl _) (J.hok.fresh (Nat.le_refl _))
  · have x : s1.heap.get? a = some o2 := (show s1.heap.get? a = some o2 ∧ _ from I1.hok a _ e).1
    rw [go] at x; cases x
    refine ⟨G.objs.size, [G.objs.size], _, _, _, rfl, I3 _ I2, turn_vals a _ o kvs hd, st 0 rfl, fun b hb => ?_, q⟩
    have e : b = G.objs.size := by simpa using hb
    subst e
    exact I2.fpOk (Nat.le_refl _) (I2.hok.fresh (Nat.le_refl _))
def tThawE (t : TE) : TE := fun σ H Q => ∃ a kvs, H a = some (.dK kvs) ∧ t σ H fun v H' => ∃ o, H' a = some (.frz o (.dK kvs)) ∧ Q v (upd H' a (.dK kvs))
theorem pe_thaw {e : Expr} {t : TE} (h : PE X e t) : PE X e (tThawE t) := by
  intro pins s σ H Q I q
  obtain ⟨a, kvs, ea, q⟩ := q
  have h0 : ∀ o u, X.H₀ a ≠ some (.frz o u) := fun o u z => by
    have := I.base.frzs a o u z
    rw [ea] at this; cases this
  exact thn (h pins s σ H _ I q) fun v s1 ⟨x, H1, I1, r1, o, e1, q1⟩ => ⟨x, _, I1.thaw h0 e1, r1, q1⟩
end
section
variable {K : PySem.W.Frag} {tl : TE} {tt : TT} {te : TE} {Q : VK} {σ : St} {H : Hp} {a : Addr} {kvs : List (Key × V)}
theorem st_cpI (e : ∀ P : V → Hp → Prop, P (.ref a) H → tl σ H P) (h : H a = some (.dK kvs)) (hn : kvs.length ≤ 1000) (Pv : Obj → Nat → List V → Hp → Prop)
    (h0 : ∀ o, Pv o 0 [] (upd H a (.frz o (.dK kvs)))) (hl : ∀ o i ys H, Pv o i ys H → ys.length ≤ i) (hk : ∀ o i ys H, Pv o i ys H → H a = some (.frz o (.dK kvs)))
    (hs : ∀ o i k v ys H p, kvs[i]? = some (k, v) → Pv o i ys H → H p = none → tt (some (kV k) :: some v :: σ) (upd H p (.tup [kV k, v])) fun b H2 => if b = true then te (some (kV k) :: some v :: σ) H2 fun y H3 => Pv o (i + 1) (ys ++ [y]) H3 else Pv o (i + 1) ys H2)
    (hd : ∀ o ys H, Pv o kvs.length ys H → ∀ p, H p = none → Q (.ref p) (upd (upd H p (.lst ys)) a (.dK kvs))) : tThawE (tComp2 K (iItems tl) tt te) σ H Q := by
  refine ⟨a, kvs, h, e _ ⟨a, kvs, rfl, .inl ⟨h, fun o => ⟨fun i m ys H => m = kvs.length - i ∧ i ≤ kvs.length ∧ Pv o i ys H, ⟨kvs.length, by simp, Nat.zero_le _, h0 o⟩, ?_⟩⟩⟩⟩
  rintro i m ys H ⟨rfl, hi, p⟩
  by_cases hlt : i < kvs.length
  · refine .inr ⟨⟨hk o i ys H p, hlt⟩, small1000 (by have := hl o i ys H p; omega), Pv o (i + 1), fun σ' H' p' => ⟨kvs.length - (i + 1), by omega, rfl, hlt, p'⟩, fun x H' y => ?_⟩
    obtain ⟨A, k, v, hA, rfl, hx, rfl⟩ := y
    exact ⟨A, _, _, rfl, SqT.of upd_same, hs o i k v ys H A hx p hA⟩
  · have e : i = kvs.length := by omega
    subst e
    refine .inl ⟨⟨hk o _ ys H p, Nat.le_refl _⟩, fun q hq => ⟨o, ?_, hd o ys H p q hq⟩⟩
    rw [upd_ne (ne_of_none (hk o _ ys H p) hq)]
    exact hk o _ ys H p
theorem st_cpV (e : ∀ P : V → Hp → Prop, P (.ref a) H → tl σ H P) (h : H a = some (.dK kvs)) (hn : kvs.length ≤ 1000) (Pv : Obj → Nat → List V → Hp → Prop)
    (h0 : ∀ o, Pv o 0 [] (upd H a (.frz o (.dK kvs)))) (hl : ∀ o i ys H, Pv o i ys H → ys.length ≤ i) (hk : ∀ o i ys H, Pv o i ys H → H a = some (.frz o (.dK kvs)))
    (hs : ∀ o i k v ys H, kvs[i]? = some (k, v) → Pv o i ys H → ∃ b x y, v = .ref b ∧ SqT K H b [x, y] ∧ tt (some x :: some y :: σ) H fun b H2 => if b = true then te (some x :: some y :: σ) H2 fun y H3 => Pv o (i + 1) (ys ++ [y]) H3 else Pv o (i + 1) ys H2)
    (hd : ∀ o ys H, Pv o kvs.length ys H → ∀ p, H p = none → Q (.ref p) (upd (upd H p (.lst ys)) a (.dK kvs))) : tThawE (tComp2 K (iVals tl) tt te) σ H Q := by
  refine ⟨a, kvs, h, e _ ⟨a, kvs, rfl, .inl ⟨h, fun o => ⟨fun i m ys H => m = kvs.length - i ∧ i ≤ kvs.length ∧ Pv o i ys H, ⟨kvs.length, by simp, Nat.zero_le _, h0 o⟩, ?_⟩⟩⟩⟩
  rintro i m ys H ⟨rfl, hi, p⟩
  by_cases hlt : i < kvs.length
  · refine .inr ⟨⟨hk o i ys H p, hlt⟩, small1000 (by have := hl o i ys H p; omega), Pv o (i + 1), fun σ' H' p' => ⟨kvs.length - (i + 1), by omega, rfl, hlt, p'⟩, fun x H' y => ?_⟩
    obtain ⟨rfl, k, hx⟩ := y
    exact hs o i k x ys _ hx p
  · have e : i = kvs.length := by omega
    subst e
    refine .inl ⟨⟨hk o _ ys H p, Nat.le_refl _⟩, fun q hq => ⟨o, ?_, hd o ys H p q hq⟩⟩
    rw [upd_ne (ne_of_none (hk o _ ys H p) hq)]
    exact hk o _ ys H p
theorem st_sum {ns : List Int} (s : SqL K H a (ns.map V.int)) (q : Q (.int ns.sum) H) : rSum K [.ref a] H Q := ⟨a, ns, rfl, s, q⟩
end
end L2

set_option Elab.async false
set_option linter.all false
set_option maxRecDepth 100000
namespace PySem
open Sem (wp)
namespace F
theorem tw_plain_update_loop : plainId "dict.update.loop" = true := by decide +kernel
theorem tw_entry_update_loop : entryFor table "dict.update.loop" = some Builtin.«dict.update.loop» := entryFor_of_fast (by kernel_rfl)
theorem tw_list_keys : typeLookup (.type "list") "keys" = pure none := by rw [typeLookup_type, builtinLookup_eq_fast]; kernel_rfl
end F
theorem tw_no_keys {prog : Program} {w : World} {A : Around} {E : Value → Shared → Prop} {s : Shared} {a : Addr} {o : Obj} {xs : Array Value} {k : Nat} {Q : Option Value → Shared → Prop}
    (hx : s.heap.get? a = some o) (hc : o.cls = .type "list") (hdat : o.data = .seq xs k) (hd : o.dict = none) (hA : A.handled = none)
    (h : ∀ h' tk, (∀ b o, s.heap.get? b = some o → h'.get? b = some o) → Q none { s with heap := h', toks := tk }) :
    wpAny (model prog w) A (getAttr? (.ref a) "keys") Q E s := by
  obtain ⟨c, dct, dat, sl⟩ := o
  simp only at hc hdat hd
  subst hc hdat hd
  obtain ⟨hp, g, d, tk, os⟩ := s
  have hT : ∀ tk', (⟨hp, g, d, tk', os⟩ : Shared).TypeIs (.ref a) "list" := fun _ => ⟨_, hx, rfl⟩
  have f1 := sub_AttributeError
  have f3 := F.slot_list_getattribute.lookup
  have f4 := F.slot_list_getattribute.bind (.ref a)
  have f5 := am_list_getattr_none
  unfold getAttr? getAttrBy? getAttrBy
  repeat (any_goals (first | assumption | exact hT _ | ((with_reducible show wpAny _ _ (call (Value.builtin "list.__getattribute__") _ _) _ _ _); refine call_meets F.slot_list_getattribute (hT _) am_entry_list_getattribute (F.args_list_getattribute_2 _ _) (meets_getattribute_miss_list a xs k sl "keys" _ F.tw_list_keys (by decide +kernel)) ⟨hx, hA, fun h' tk' e hx' => ?_⟩) | wp_step))
  obtain ⟨t', u', he⟩ := hx'.there
  show wpAny _ _ (getattributeRaised _ _ _ _ _ _ _) _ _ _
  unfold getattributeRaised
  repeat (any_goals (first | assumption | wp_step))
  exact h _ _ hx'.keeps
section
variable {prog : Program} {w : World} {K : Type} [DecidableEq K] {knd : KeyKind prog w K} {A : Around} {R : Result → Shared → Prop}
theorem tw_update_loop {it l d : Addr} {items : Array Value} {kvs : List (K × Value)} {h0 : Heap} (W : Walks prog w A.in1 it [it, l] [it] items.size (fun i v => items[i]? = some v) (fun i h => h.IsListIter it l i ∧ h.IsList l items))
    (hdi : d ≠ it) (hdl : d ≠ l) (hl : items.size = kvs.length) (hsz : kvs.length ≤ sizeLine)
    (hT : ∀ (i : Nat) (k : K) (v : Value), kvs[i]? = some (k, v) → ∃ (T : Addr) (key : Value), items[i]? = some (Value.ref T) ∧ T ≠ it ∧ T ≠ d ∧ h0.IsTuple T #[key, v] ∧ knd.is k key = true) :
    ∀ (k i : Nat) (s : Shared), kvs.length - i = k → i ≤ kvs.length → (s.heap.IsListIter it l i ∧ s.heap.IsList l items) → (∀ b o, b ≠ it → b ≠ d → h0.get? b = some o → s.heap.get? b = some o) → s.heap.DictOf knd d (merged [] (kvs.take i)) →
    (∀ h' tk, (∀ b o, b ≠ it → b ≠ d → h0.get? b = some o → h'.get? b = some o) → h'.DictOf knd d (merged [] kvs) → R (.ok (.ret .none)) { s with heap := h', toks := tk }) →
    codeAny (model prog w) A (.builtin "dict.update.loop" ⟨[.ref d, .ref it, rawInt i, .none], []⟩) R s := by
  intro k
  induction k with
  | zero =>
    intro i s hk hi hst hkeep hd hR
    have hin : i = kvs.length := by omega
    subst hin
    refine codeAny_builtin F.tw_entry_update_loop ?_
    rw [Around.under_plainId F.tw_plain_update_loop _]
    show wpAny _ A.in1 (pyNext (.ref it) >>= _) _ _ s
    have hst' : s.heap.IsListIter it l items.size ∧ s.heap.IsList l items := by rw [hl]; exact hst
    refine wpAny_bind (W.done s _ _ hst' fun h' tk hk' => ?_)
    refine wpAny_bind (wpAny_pure (wpAny_pure ?_))
    rw [List.take_length] at hd
    exact hR h' tk (fun b o b1 b2 e => hk' b o (by simpa using b1) (hkeep b o b1 b2 e)) (let ⟨o, es, ep, ho, r⟩ := hd; ⟨o, es, ep, hk' _ _ (by simpa using hdi) ho, r⟩)
  | succ k ih =>
    intro i s hk hi hst hkeep hd hR
    have hlt : i < kvs.length := by omega
    refine codeAny_builtin F.tw_entry_update_loop ?_
    rw [Around.under_plainId F.tw_plain_update_loop _]
    show wpAny _ A.in1 (pyNext (.ref it) >>= _) _ _ s
    refine wpAny_bind (W.item i s _ _ (by omega) hst fun v h' tk hP hst' hk' => ?_)
    obtain ⟨key0, v0, e0⟩ : ∃ k v, kvs[i]? = some (k, v) := ⟨_, _, List.getElem?_eq_getElem hlt⟩
    obtain ⟨T, key, eT, nT, nTd, tT, kk⟩ := hT i key0 v0 e0
    rw [eT] at hP
    cases hP
    have tT' : h'.IsTuple T #[key, v0] := tT.at fun o e => hk' _ _ (by simpa using nT) (hkeep _ _ nT nTd e)
    obtain ⟨oT, gT, cT, n, dT⟩ := tT'
    have hd' : h'.DictOf knd d (merged [] (kvs.take i)) := let ⟨o, es, ep, ho, r⟩ := hd; ⟨o, es, ep, hk' _ _ (by simpa using hdi) ho, r⟩
    refine wpAny_bind (wpAny_holding ?_)
    refine wpAny_bind (wpAny_tryCatch ?_)
    unfold Builtin.Dict.pairItems
    refine wpAny_bind (wpAny_typeOf (T := "tuple") ⟨_, gT, cT⟩ ?_)
    rw [if_pos (by decide)]
    refine wpAny_bind (wpAny_seqItems gT dT (wpAny_pure ?_))
    show wpAny _ A.in1 (holding [key, v0] (dictSet d key v0)) _ _ _
    have hm : (merged [] (kvs.take i)).length ≤ sizeLine := by
      have e1 := merged_length_le [] (kvs.take i)
      have e2 : (kvs.take i).length ≤ kvs.length := by rw [List.length_take]; omega
      simp only [List.length_nil] at e1
      omega
    refine wpAny_holding (wpAny_dictSet_pairs (hsz := hm) kk hd' fun h2 hd2 hs2 => ?_)
    rw [← merged_take_succ [] kvs i (key0, v0) e0] at hd2
    refine wpAny_pure ⟨plainId_quiet F.tw_plain_update_loop _, ?_⟩
    have z : rawInt ((i : Int) + 1) = rawInt ((i + 1 : Nat) : Int) := by push_cast; rfl
    show codeAny _ _ (.builtin "dict.update.loop" ⟨[.ref d, .ref it, rawInt ((i : Int) + 1), .none], []⟩) _ _
    rw [z]
    refine ih (i + 1) _ (by omega) hlt ⟨hst'.1.extBut hs2.extBut (Ne.symm hdi), hst'.2.extBut hs2.extBut (Ne.symm hdl)⟩ (fun b o b1 b2 e => hs2.extBut b o b2 (hk' b o (by simpa using b1) (hkeep b o b1 b2 e))) hd2 fun h3 tk3 hk3 hd3 => hR h3 tk3 hk3 hd3
end
end PySem
namespace L2
open PySem PySem.Spec PyProof.Rows
section
variable {X : Cx}
def PairsAt (K : PySem.W.Frag) (H : Hp) : List Addr → List (Key × V) → Prop := Paired fun a (kv : Key × V) => SqT K H a [kV kv.1, kv.2]
def rDictP (K : PySem.W.Frag) : List V → Hp → VK → Prop := fun xs H Q => ∃ (p : Addr) (as : List Addr) (kvs : List (Key × V)), xs = [.ref p] ∧ H p = some (.lst (as.map V.ref)) ∧ kvs.length ≤ 1000 ∧ PairsAt K H as kvs ∧ (kvs.map (·.1)).Nodup ∧ ∀ q, H q = none → Q (.ref q) (upd H q (.dK kvs))
theorem pairs_in {pins : List (Addr × Obj)} {σ : St} {H : Hp} {s : Shared} (I : Inv X pins σ H s) : ∀ {as : List Addr} {kvs : List (Key × V)}, PairsAt X.K H as kvs → ∀ {its : List Value}, Vals (as.map V.ref) its →
    ∃ vs : List (Key × Value), KV kvs vs ∧ its.length = vs.length ∧ ∀ (i : Nat) (k : Key) (v : Value), vs[i]? = some (k, v) → ∃ (T : Addr) (key : Value), its[i]? = some (Value.ref T) ∧ s.heap.IsTuple T #[key, v] ∧ (mixKind X.prog X.w).is k key = true
  | _, _, .nil, _, .nil => ⟨[], .nil, rfl, fun i k v e => by simp at e⟩
  | a :: as, kv :: kvs, .cons h t, u :: its, .cons r rs => by
    obtain ⟨vs, rel, hl, hq⟩ := pairs_in I t rs
    cases (show u = Value.ref a from r)
    obtain ⟨it2, rv, pl, _⟩ := I.tuple h
    cases rv with
    | cons r1 r2 =>
      cases r2 with
      | cons r2 r3 =>
        cases r3
        rename_i key v
        refine ⟨(kv.1, v) :: vs, .cons ⟨rfl, r2⟩ rel, by simp [hl], fun i k w e => ?_⟩
        cases i with
        | zero =>
          cases e
          exact ⟨a, key, rfl, pl, kV_is r1⟩
        | succ i => exact hq i k w (by simpa using e)
theorem kv_keys {kvs : List (Key × V)} {vs : List (Key × Value)} (r : KV kvs vs) : kvs.map (·.1) = vs.map (·.1) := by
  unfold KV at r
  induction r with
  | nil => rfl
  | cons h t ih => rw [List.map_cons, List.map_cons, h.1, ih]
theorem call_dictP (hc : X.calm = true) : CallR X (.type "dict") (rDictP X.K) := by
  intro pins s σ H xs us Q I r h
  obtain ⟨p, as, kvs, rfl, hp, hz, hT, nd, q⟩ := h
  obtain ⟨u, rfl, ru⟩ := Vals.one r
  cases (show u = Value.ref p from ru)
  obtain ⟨_, its, n, rv, e⟩ : _ ∧ ∃ (its : List Value) (n : Nat), Vals (as.map V.ref) its ∧ s.heap.get? p = some { cls := .type "list", data := .seq its.toArray n } := I.hok p _ hp
  obtain ⟨vs, rel, hl, hq⟩ := pairs_in I hT rv
  have hh : X.A.handled = none := I.ok.hd hc
  have hplt := Heap.lt_size e
  refine callType_codes (Q₁ := fun obj s₁ => obj = .ref s.heap.objs.size ∧ s₁ = { s with heap := s.heap.push { cls := .type "dict", data := .dict #[] } }) F.kt_called_dict (F.kt_typeCall_dict_1 _) F.entry_dict_init (kt_code_dict_new _ ⟨rfl, rfl⟩) ?_
  rintro obj s₁ ⟨rfl, rfl⟩
  have hnew : (s.heap.push { cls := .type "dict", data := .dict #[] }).DictOf (mixKind X.prog X.w) s.heap.objs.size [] := Heap.DictOf.new s.heap
  refine ⟨hnew.typeIs, F.args_dict_init_2 _ _, ?_⟩
  have e' : (s.heap.push { cls := .type "dict", data := .dict #[] }).get? p = some { cls := .type "list", data := .seq its.toArray n } := Heap.get?_push_of_some _ e
  unfold Builtin.«dict.__init__»
  refine wpAny_bind ?_
  unfold Builtin.Dict.selfAndRest
  refine wpAny_bind (wpAny_notOrdered_dict hnew.typeIs ?_)
  show wpAny _ _ (pure (s.heap.objs.size, [Value.ref p])) _ _ _
  refine wpAny_pure ?_
  show wpAny _ _ (Builtin.Dict.updateFrom "dict.__init__" s.heap.objs.size (.ref p) [] .none) _ _ _
  unfold Builtin.Dict.updateFrom
  refine wpAny_bind (wpAny_typeOf (T := "list") ⟨_, e', rfl⟩ ?_)
  rw [if_pos (by decide)]
  refine wpAny_bind (tw_no_keys e' rfl rfl rfl hh fun h1 tk1 hk1 => ?_)
  rw [if_pos (show (none : Option Value).isNone = true from rfl)]
  refine wpAny_bind (wpAny_rule ?_)
  have e1 := hk1 _ _ e'
  refine wpAny_bind (wpAny_pyIter_list (items := its.toArray) ⟨_, e1, rfl, n, rfl⟩ ?_)
  have hsz1 : s.heap.objs.size < h1.objs.size := by
    obtain ⟨o, es, ep, ho, _⟩ := hnew
    exact Heap.lt_size (hk1 _ _ ho)
  have hlen : vs.length = kvs.length := rel.length.symm
  have nd2 : (vs.map (·.1)).Nodup := by
    have e2 : vs.map (·.1) = kvs.map (·.1) := (kv_keys rel).symm
    rw [e2]; exact nd
  have ol : ∀ b o, s.heap.get? b = some o → h1.get? b = some o := fun b o eb => hk1 _ _ (Heap.get?_push_of_some _ eb)
  refine wpAny_pure ⟨plainId_quiet F.tw_plain_update_loop _, ?_⟩
  refine tw_update_loop (knd := mixKind X.prog X.w) (A := X.A.in1) (it := h1.objs.size) (l := p) (d := s.heap.objs.size) (items := its.toArray) (kvs := vs) (h0 := h1) (Walks.list (A := X.A.in1.in1) hh _ p (Nat.ne_of_lt (Nat.lt_trans hplt hsz1)) its.toArray) (Nat.ne_of_lt hsz1) (Ne.symm (Nat.ne_of_lt hplt)) (by simpa using hl) (by rw [hlen]; exact Nat.le_of_lt (small1000 hz)) (fun i k v ev => ?_) _ 0 _ rfl (Nat.zero_le _) ⟨⟨_, Heap.get?_push_size _ rfl, rfl, rfl⟩, ⟨_, Heap.get?_push_of_some _ e1, rfl, n, rfl⟩⟩ (fun b o _ _ eb => Heap.get?_push_of_some _ eb) ?_ fun h' tk hk' hd' => ?_
  · obtain ⟨T, key, t1, t2, t3⟩ := hq i k v ev
    obtain ⟨oT, gT, rT⟩ := t2
    have lt := Heap.lt_size gT
    exact ⟨T, key, by simpa using t1, Nat.ne_of_lt (Nat.lt_trans lt hsz1), Nat.ne_of_lt lt, ⟨oT, ol _ _ gT, rT⟩, t3⟩
  · obtain ⟨o, es, ep, ho, rr⟩ := hnew
    exact ⟨o, es, ep, Heap.get?_push_of_some _ (hk1 _ _ ho), rr⟩
  · rw [merged_nil_of_nodup vs nd2] at hd'
    refine ⟨rfl, .ref s.heap.objs.size, _, I.laid (a := s.heap.objs.size) (o := .dK kvs) (t' := tk) (fun b o eb => ?_) (Nat.le_refl _) (dk_new (Nat.le_of_lt (small1000 hz)) (beq_eq_false_iff_ne.mpr (Ne.symm (Nat.ne_of_lt I.big))) rel hd'), rfl, q _ (I.hok.fresh (Nat.le_refl _))⟩
    have lt := Heap.lt_size eb
    exact hk' b o (Nat.ne_of_lt (Nat.lt_trans lt hsz1)) (Nat.ne_of_lt lt) (ol _ _ eb)
end
end L2

set_option Elab.async false
set_option linter.all false
set_option maxRecDepth 100000
namespace L2
open PySem PySem.Spec PyProof.Rows
def CMulV (i j : Int) : Prop := i.natAbs < 2 ^ 300 ∧ j.natAbs < 2 ^ 300
theorem bits300V {k : Int} (h : k.natAbs < 2 ^ 300) : Builtin.Int.intBits k ≤ 300 := by
  unfold Builtin.Int.intBits
  split
  · exact Nat.zero_le _
  · rcases Nat.eq_zero_or_pos k.natAbs with z | z
    · rw [z]; decide
    · exact (Nat.log2_lt (Nat.ne_of_gt z)).mpr h
theorem op_mulV {X : Cx} : OpR X (binaryOp .Mult) (rI CMulV fun i j => .int (i * j)) := opI fun _ _ _ _ _ _ _ hc q => mul_int q (IntMulOk.of_bits (Nat.le_trans (bits300V hc.1) (by decide)) (Nat.le_trans (bits300V hc.2) (by decide)))
theorem cmulV {i j : Int} (h : i.natAbs < 2 ^ 100) (h2 : j.natAbs < 2 ^ 100) : CMulV i j := ⟨Nat.lt_trans h (by decide), Nat.lt_trans h2 (by decide)⟩
theorem st_par {i j : Nat} {ta : TA} {D : Ends} {σ : St} {H : Hp} (h : ta σ H fun vs H1 => ∃ v w, vs = [v, w] ∧ D.nx ((σ.set i (some v)).set j (some w)) H1) : tPar i j ta D σ H := h
end L2
namespace Tw
open PySem L2
def crs (r q : Row) : Nat := (r.x &&& q.z) ^^^ (r.z &&& q.x)

def qrt (r q : Row) : Int := 2 * ((r.m : Int) + (q.m : Int) + (pop (r.x &&& q.z) : Nat)) + (pop (r.x &&& r.z) : Nat) + (pop (q.x &&& q.z) : Nat) - (pop ((r.x ^^^ q.x) &&& (r.z ^^^ q.z)) : Nat)
def prod (r q : Row) : Row := ⟨(qrt r q % 4 / 2).toNat, r.x ^^^ q.x, r.z ^^^ q.z⟩
def trn (r : Row) (b : Nat) : Nat := 2 * r.m + 2 * pop (r.z &&& b) + pop (r.x &&& r.z)
theorem qrt_even {r q : Row} (h : pop (crs r q) % 2 = 0) : qrt r q % 2 = 0 := quart_even (pop_both r.x r.z q.x q.z) h
theorem prod_m (r q : Row) : ((prod r q).m : Int) = qrt r q % 4 / 2 := by
  show ((qrt r q % 4 / 2).toNat : Int) = _
  omega
theorem prod_ok {r q : Row} {n : Nat} (a : r.Ok n) (b : q.Ok n) : (prod r q).Ok n := ⟨by
  have := prod_m r q
  have h : (prod r q).m = (prod r q).m := rfl
  omega, xor_lt a.x b.x, xor_lt a.z b.z⟩
theorem prod_does {r q : Row} (h : pop (crs r q) % 2 = 0) (b : Nat) : (b ^^^ r.x) ^^^ q.x = b ^^^ (prod r q).x ∧ (trn r b % 4 + trn q (b ^^^ r.x) % 4) % 4 = trn (prod r q) b % 4 := by
  refine ⟨by show _ = b ^^^ (r.x ^^^ q.x); rw [Nat.xor_assoc], ?_⟩
  have h1 := prod_m r q
  have h2 := (quart_half (qrt_even h)).2.2
  have h3 := pop_meet r.z q.z r.x b
  unfold trn
  show _ = (2 * (prod r q).m + 2 * pop ((r.z ^^^ q.z) &&& b) + pop ((r.x ^^^ q.x) &&& (r.z ^^^ q.z))) % 4
  have h4 : qrt r q = 2 * ((r.m : Int) + (q.m : Int) + (pop (r.x &&& q.z) : Nat)) + (pop (r.x &&& r.z) : Nat) + (pop (q.x &&& q.z) : Nat) - (pop ((r.x ^^^ q.x) &&& (r.z ^^^ q.z)) : Nat) := rfl
  rw [← h1] at h2
  omega
theorem prod_comm {r q : Row} (h : pop (crs r q) % 2 = 0) : (prod q r).V = (prod r q).V := by
  have h1 := prod_m r q
  have h2 := prod_m q r
  have h3 := pop_xor2 (r.x &&& q.z) (r.z &&& q.x)
  have h4 : pop ((r.x &&& q.z) ^^^ (r.z &&& q.x)) % 2 = 0 := h
  have e1 : q.x ^^^ r.x = r.x ^^^ q.x := Nat.xor_comm _ _
  have e2 : q.z ^^^ r.z = r.z ^^^ q.z := Nat.xor_comm _ _
  have e3 : q.x &&& r.z = r.z &&& q.x := Nat.and_comm _ _
  have h5 : qrt q r = 2 * ((q.m : Int) + (r.m : Int) + (pop (q.x &&& r.z) : Nat)) + (pop (q.x &&& q.z) : Nat) + (pop (r.x &&& r.z) : Nat) - (pop ((q.x ^^^ r.x) &&& (q.z ^^^ r.z)) : Nat) := rfl
  have h6 : qrt r q = 2 * ((r.m : Int) + (q.m : Int) + (pop (r.x &&& q.z) : Nat)) + (pop (r.x &&& r.z) : Nat) + (pop (q.x &&& q.z) : Nat) - (pop ((r.x ^^^ q.x) &&& (r.z ^^^ q.z)) : Nat) := rfl
  rw [e1, e2, e3] at h5
  have e4 : qrt q r % 4 = qrt r q % 4 := by omega
  have e5 : (prod q r).m = (prod r q).m := by rw [e4] at h2; omega
  have e6 : (prod q r).x = (prod r q).x := e1
  have e7 : (prod q r).z = (prod r q).z := e2
  unfold Row.V
  rw [e5, e6, e7]
theorem prod_self (r : Row) : (prod r r).V = [.int 0, .int 0, .int 0] := by
  have h1 := prod_m r r
  have h6 : qrt r r = 2 * ((r.m : Int) + (r.m : Int) + (pop (r.x &&& r.z) : Nat)) + (pop (r.x &&& r.z) : Nat) + (pop (r.x &&& r.z) : Nat) - (pop ((r.x ^^^ r.x) &&& (r.z ^^^ r.z)) : Nat) := rfl
  rw [Nat.xor_self, Nat.xor_self, Nat.and_self, pop_zero] at h6
  have e5 : (prod r r).m = 0 := by omega
  have e6 : (prod r r).x = 0 := Nat.xor_self _
  have e7 : (prod r r).z = 0 := Nat.xor_self _
  unfold Row.V
  rw [e5, e6, e7]
  rfl
theorem crs_self (r : Row) : pop (crs r r) % 2 = 0 := by
  unfold crs
  rw [Nat.and_comm r.z, Nat.xor_self, pop_zero]
theorem crs_comm (r q : Row) : crs q r = crs r q := by
  unfold crs
  rw [Nat.and_comm q.x, Nat.and_comm q.z, Nat.xor_comm]
def tE (r : Row) (e : Nat × Int × Int) : Nat × Int × Int := (e.1 ^^^ r.x, turn (trn r e.1) e.2)
theorem turn_even (q : Nat) (h : q % 4 = 0) (p : Int × Int) : turn q p = p := by
  rw [turn_mod (b := 0) (by omega)]
  rfl
theorem tE_two {r q : Row} (h : pop (crs r q) % 2 = 0) (e : Nat × Int × Int) : tE q (tE r e) = tE (prod r q) e := by
  obtain ⟨h1, h2⟩ := prod_does h e.1
  unfold tE
  dsimp only
  rw [h1, turn_turn]
  exact congrArg _ (turn_mod (by omega) _)
theorem tE_self (r : Row) (e : Nat × Int × Int) : tE r (tE r e) = e := by
  obtain ⟨h1, h2⟩ := prod_does (crs_self r) e.1
  have e0 := prod_self r
  unfold Row.V at e0
  simp only [List.cons.injEq, V.int.injEq, and_true] at e0
  obtain ⟨m0, x0, z0⟩ := e0
  have m1 : (prod r r).m = 0 := by omega
  have x1 : (prod r r).x = 0 := by omega
  have z1 : (prod r r).z = 0 := by omega
  have t0 : trn (prod r r) e.1 = 0 := by
    unfold trn
    rw [m1, x1, z1, Nat.zero_and, Nat.zero_and, pop_zero]
  rw [t0] at h2
  rw [x1, Nat.xor_zero] at h1
  unfold tE
  dsimp only
  rw [h1, turn_turn, turn_even _ (by omega)]
theorem trn_about (r q : Row) (b : Nat) : (trn r b + trn q (b ^^^ r.x)) % 4 = (trn q b + trn r (b ^^^ q.x) + 2 * pop (crs r q)) % 4 := by
  have m1 := pop_meet r.z q.z r.x b
  have m2 := pop_meet q.z r.z q.x b
  rw [Nat.xor_comm q.z] at m2
  have h3 := pop_xor2 (r.x &&& q.z) (r.z &&& q.x)
  have e3 : crs r q = (r.x &&& q.z) ^^^ (r.z &&& q.x) := rfl
  rw [Nat.and_comm r.z] at h3 e3
  rw [e3]
  unfold trn
  omega
theorem tE_about (r q : Row) (e : Nat × Int × Int) : tE q (tE r e) = ((tE r (tE q e)).1, turn (2 * pop (crs r q)) (tE r (tE q e)).2) := by
  have h := trn_about r q e.1
  unfold tE
  dsimp only
  rw [turn_turn, turn_turn, turn_turn, Nat.xor_assoc, Nat.xor_assoc, Nat.xor_comm q.x]
  exact congrArg _ (turn_mod (by omega) _)
def negE (e : Nat × Int × Int) : Nat × Int × Int := (e.1, (0 - e.2.1, 0 - e.2.2))
theorem turn_2 (p : Int × Int) : turn 2 p = (0 - p.1, 0 - p.2) := by
  unfold turn
  simp
def wgt (ws : Wh) : Int := (ws.map fun e => e.2.1 * e.2.1 + e.2.2 * e.2.2).sum
theorem turn_wgt (q : Nat) (p : Int × Int) : (turn q p).1 * (turn q p).1 + (turn q p).2 * (turn q p).2 = p.1 * p.1 + p.2 * p.2 := by
  have h : q % 4 = 0 ∨ q % 4 = 1 ∨ q % 4 = 2 ∨ q % 4 = 3 := by omega
  rcases h with h | h | h | h
  · rw [turn_mod (b := 0) (by omega)]; rfl
  · rw [turn_mod (b := 1) (by omega)]
    show (-p.2) * (-p.2) + p.1 * p.1 = _
    rw [Int.neg_mul_neg, Int.add_comm]
  · rw [turn_mod (b := 2) (by omega)]
    show (-p.1) * (-p.1) + (-p.2) * (-p.2) = _
    rw [Int.neg_mul_neg, Int.neg_mul_neg]
  · rw [turn_mod (b := 3) (by omega)]
    show p.2 * p.2 + (-p.1) * (-p.1) = _
    rw [Int.neg_mul_neg, Int.add_comm]
theorem wgt_map (r : Row) (ws : Wh) : wgt (ws.map (tE r)) = wgt ws := by
  unfold wgt
  rw [List.map_map]
  congr 1
  apply List.map_congr_left
  intro e _
  exact turn_wgt _ _
structure Wok (ws : Wh) : Prop where
  nd : (ws.map (·.1)).Nodup
  sm : ∀ e ∈ ws, e.2.1.natAbs < 2 ^ 100 ∧ e.2.2.natAbs < 2 ^ 100
theorem turn_abs (q : Nat) {p : Int × Int} {N : Nat} (h : p.1.natAbs < N ∧ p.2.natAbs < N) : (turn q p).1.natAbs < N ∧ (turn q p).2.natAbs < N := by
  have c : q % 4 = 0 ∨ q % 4 = 1 ∨ q % 4 = 2 ∨ q % 4 = 3 := by omega
  rcases c with c | c | c | c
  · rw [turn_mod (b := 0) (by omega)]; exact h
  · rw [turn_mod (b := 1) (by omega)]
    show (-p.2).natAbs < N ∧ p.1.natAbs < N
    rw [Int.natAbs_neg]; exact ⟨h.2, h.1⟩
  · rw [turn_mod (b := 2) (by omega)]
    show (-p.1).natAbs < N ∧ (-p.2).natAbs < N
    rw [Int.natAbs_neg, Int.natAbs_neg]; exact h
  · rw [turn_mod (b := 3) (by omega)]
    show p.2.natAbs < N ∧ (-p.1).natAbs < N
    rw [Int.natAbs_neg]; exact ⟨h.2, h.1⟩
theorem nodup_xor {x : Nat} : ∀ {l : List Nat}, l.Nodup → (l.map fun b => b ^^^ x).Nodup
  | [], _ => by simp
  | b :: l, h => by
    rw [List.nodup_cons] at h
    rw [List.map_cons, List.nodup_cons]
    refine ⟨fun z => ?_, nodup_xor h.2⟩
    obtain ⟨c, hc, e⟩ := List.mem_map.mp z
    exact h.1 (xor_inj e ▸ hc)
theorem Wok.row {ws : Wh} (h : Wok ws) (r : Row) : Wok (ws.map (tE r)) := by
  refine ⟨?_, fun e he => ?_⟩
  · have e : (ws.map (tE r)).map (·.1) = (ws.map (·.1)).map fun b => b ^^^ r.x := by rw [List.map_map, List.map_map]; rfl
    rw [e]
    exact nodup_xor h.nd
  · obtain ⟨f, hf, rfl⟩ := List.mem_map.mp he
    exact turn_abs _ (h.sm f hf)
theorem Wok.neg {ws : Wh} (h : Wok ws) : Wok (ws.map negE) := by
  refine ⟨?_, fun e he => ?_⟩
  · have e : (ws.map negE).map (·.1) = ws.map (·.1) := by rw [List.map_map]; rfl
    rw [e]
    exact h.nd
  · obtain ⟨f, hf, rfl⟩ := List.mem_map.mp he
    have := h.sm f hf
    show (0 - f.2.1).natAbs < _ ∧ (0 - f.2.2).natAbs < _
    omega
theorem Wok.nil : Wok [] := ⟨by simp, fun _ z => nomatch z⟩
theorem wput_keys (ws : Wh) (b : Nat) (p : Int × Int) : (wput ws b p).map (·.1) = if ws.any (fun e => decide (e.1 = b)) then ws.map (·.1) else ws.map (·.1) ++ [b] := by
  unfold wput
  split
  · rw [List.map_map]
    apply List.map_congr_left
    intro e _
    show (if e.1 = b then (e.1, p) else e).1 = e.1
    split <;> rfl
  · rw [List.map_append]; rfl
theorem Wok.put {ws : Wh} (h : Wok ws) {b : Nat} {p : Int × Int} (hp : p.1.natAbs < 2 ^ 100 ∧ p.2.natAbs < 2 ^ 100) : Wok (wput ws b p) := by
  refine ⟨?_, fun e he => ?_⟩
  · rw [wput_keys]
    split
    · exact h.nd
    · rename_i c
      rw [List.nodup_append]
      refine ⟨h.nd, by simp, fun x hx y hy z => ?_⟩
      have e1 : y = b := by simpa using hy
      obtain ⟨f, hf, rfl⟩ := List.mem_map.mp hx
      exact c (List.any_eq_true.mpr ⟨f, hf, decide_eq_true (z.trans e1)⟩)
  · unfold wput at he
    split at he
    · obtain ⟨f, hf, rfl⟩ := List.mem_map.mp he
      split
      · exact hp
      · exact h.sm f hf
    · rcases List.mem_append.mp he with z | z
      · exact h.sm e z
      · rw [List.mem_singleton.mp z]
        exact hp
theorem wput_le (ws : Wh) (b : Nat) (p : Int × Int) : (wput ws b p).length ≤ ws.length + 1 := by
  unfold wput
  split <;> simp
theorem tE_step {r : Row} {ws : Wh} {i : Nat} {e : Nat × Int × Int} (nd : (ws.map (·.1)).Nodup) (h : ws[i]? = some e) : (ws.take (i + 1)).map (tE r) = wput ((ws.take i).map (tE r)) (tE r e).1 (tE r e).2 := by
  have ht : ws.take (i + 1) = ws.take i ++ [e] := by
    rw [List.take_add_one, h]; rfl
  rw [ht, List.map_append, wput_new fun f hf => ?_]
  · rfl
  · obtain ⟨g, hg, rfl⟩ := List.mem_map.mp hf
    intro z
    have z' : g.1 = e.1 := xor_inj z
    have nd2 : ((ws.take (i + 1)).map (·.1)).Nodup := by
      rw [List.map_take]
      exact List.Sublist.nodup (List.take_sublist _ _) nd
    rw [ht, List.map_append, List.nodup_append] at nd2
    exact nd2.2.2 g.1 (List.mem_map.mpr ⟨g, hg, rfl⟩) e.1 (by simp) z'
def But (f : Addr) (H H' : Hp) : Prop := ∀ c o, c ≠ f → H c = some o → H' c = some o
theorem But.tup {K : PySem.W.Frag} {f : Addr} {H H' : Hp} (h : But f H H') {kvs : List (Key × V)} (hf : H f = some (.dK kvs)) : ∀ a xs, SqT K H a xs → SqT K H' a xs := fun a xs s => by
  rcases s with (s | ⟨o, s⟩) | s
  · exact .inl (.inl (h _ _ (ne_of s hf (by intro z; cases z)) s))
  · exact .inl (.inr ⟨o, h _ _ (ne_of s hf (by intro z; cases z)) s⟩)
  · exact .inr s
theorem But.same {f : Addr} {H0 H H' : Hp} (s : Same H0 H) (h : But f H H') (n : H0 f = none) : Same H0 H' := fun c o e => h c o (ne_of_none e n) (s c o e)
theorem But.upd {f : Addr} {H : Hp} {o : HO} : But f H (L2.upd H f o) := fun c u hc e => by rw [upd_ne hc]; exact e
theorem frz_tup {K : PySem.W.Frag} {H : Hp} {a : Addr} {o : Obj} {kvs : List (Key × V)} {u : HO} (h : H a = some (.frz o (.dK kvs))) : ∀ x xs, SqT K H x xs → SqT K (upd H a u) x xs := fun x xs s => by
  rcases s with (s | ⟨o', s⟩) | s
  · exact .inl (.inl (by rw [upd_ne (ne_of s h (by intro z; cases z))]; exact s))
  · exact .inl (.inr ⟨o', by rw [upd_ne (ne_of s h (by intro z; cases z))]; exact s⟩)
  · exact .inr s
section
variable {K : PySem.W.Frag} {H : Hp} {Q : VK} {a b : Addr} {kvs kvs2 : List (Key × V)} {ws : Wh}
theorem WR.eq (ha : H a = some (.dK kvs)) (hb : H b = some (.dK kvs2)) (h : WR K H ws kvs) (h2 : WR K H ws kvs2) (ok : Wok ws) (q : Q (.bl true) H) : rEqM false K (.ref a) (.ref b) H Q := by
  refine st_eqM (.inl ha) (.inl hb) (h.dv ok.nd) (h2.dv ok.nd) ?_
  rw [h.same h2 rfl (fun _ => rfl) fun b hb => wat_mem hb]
  exact q
theorem WR.ne (ha : H a = some (.dK kvs)) (hb : H b = some (.dK kvs2)) (h : WR K H ws kvs) (h2 : WR K H ws kvs2) (ok : Wok ws) (q : Q (.bl false) H) : rEqM true K (.ref a) (.ref b) H Q := by
  refine st_eqM (.inl ha) (.inl hb) (h.dv ok.nd) (h2.dv ok.nd) ?_
  rw [h.same h2 rfl (fun _ => rfl) fun b hb => wat_mem hb]
  exact q
end
theorem cut_intsG (ns : List Int) (lo hi : Nat) : ∃ ms : List Int, cutV (ns.map V.int) (some (lo : Int)) (some (hi : Int)) = ms.map V.int ∧ ms.length ≤ hi - lo := by
  refine ⟨(ns.drop (min lo ns.length)).take (min hi ns.length - min lo ns.length), ?_, by rw [List.length_take, List.length_drop]; omega⟩
  unfold cutV
  rw [HT.sIx_nat, HT.sIx_nat, List.length_map, List.map_take, List.map_drop]
theorem take_succV {α : Type} {l : List α} {i : Nat} {x : α} (h : l[i]? = some x) : l.take (i + 1) = l.take i ++ [x] := by rw [List.take_add_one, h]; rfl
theorem int_at {ns : List Int} {i : Nat} {x : V} (h : (ns.map V.int)[i]? = some x) : ∃ c : Int, x = .int c := by
  rw [List.getElem?_map] at h
  cases e : ns[i]? with
  | none => rw [e] at h; cases h
  | some k => rw [e] at h; exact ⟨k, (Option.some.inj h).symm⟩
theorem small20 {v : Int} (h : v.natAbs ≤ 10 ^ 20) : v.natAbs < 2 ^ 100 := Nat.lt_of_le_of_lt h (by decide)
theorem WR.keys {K : PySem.W.Frag} {H : Hp} {ws : Wh} {kvs : List (Key × V)} (h : WR K H ws kvs) : kvs.map (·.1) = (ws.map (·.1)).map fun b => (Sum.inl ((b : Nat) : Int) : Key) := by
  induction h with
  | nil => rfl
  | cons q _ ih => rw [List.map_cons, List.map_cons, List.map_cons, ih]
theorem keys_nodup : ∀ {l : List Nat}, l.Nodup → (l.map fun b => (Sum.inl ((b : Nat) : Int) : Key)).Nodup
  | [], _ => by simp
  | b :: l, h => by
    rw [List.nodup_cons] at h
    rw [List.map_cons, List.nodup_cons]
    refine ⟨fun z => ?_, keys_nodup h.2⟩
    obtain ⟨c, hc, e⟩ := List.mem_map.mp z
    exact h.1 (key_eq.mp e ▸ hc)
theorem about_odd {r q : Row} (h : pop (crs r q) % 2 = 1) (e : Nat × Int × Int) : tE q (tE r e) = negE (tE r (tE q e)) := by
  rw [tE_about r q e]
  unfold negE
  rw [← turn_2, turn_mod (a := 2 * pop (crs r q)) (b := 2) (by omega)]
theorem about_even {r q : Row} (h : pop (crs r q) % 2 = 0) (e : Nat × Int × Int) : tE q (tE r e) = tE r (tE q e) := by
  rw [tE_about r q e, turn_even _ (by omega)]
theorem aside_odd (r q : Row) : (pop (r.x &&& q.z) + pop (r.z &&& q.x)) % 2 = pop (crs r q) % 2 := (pop_xor2 _ _).symm
end Tw
namespace L2
open PySem PySem.Spec PyProof.Rows
theorem pr_snoc {α β : Type} {F : α → β → Prop} {a : α} {b : β} (x : F a b) : ∀ {as : List α} {bs : List β}, Paired F as bs → Paired F (as ++ [a]) (bs ++ [b])
  | _, _, .nil => .cons x .nil
  | _, _, .cons h t => .cons h (pr_snoc x t)
theorem pr_map {α β : Type} {F G : α → β → Prop} (k : ∀ a b, F a b → G a b) : ∀ {as : List α} {bs : List β}, Paired F as bs → Paired G as bs
  | _, _, .nil => .nil
  | _, _, .cons h t => .cons (k _ _ h) (pr_map k t)
end L2
namespace Tw
open PySem L2
def WhAt (K : PySem.W.Frag) (H : Hp) (a : Addr) (ws : Wh) : Prop := ∃ kvs, H a = some (.dK kvs) ∧ WR K H ws kvs
theorem WhAt.stay {K : PySem.W.Frag} {H H' : Hp} {a : Addr} {ws : Wh} (h : WhAt K H a ws) (s : Same H H') : WhAt K H' a ws := by
  obtain ⟨kvs, h1, h2⟩ := h
  exact ⟨kvs, s _ _ h1, h2.stay fun a xs q => s.tup q⟩
theorem WhAt.ne {K : PySem.W.Frag} {H : Hp} {Q : VK} {a b : Addr} {ws : Wh} (h : WhAt K H a ws) (h2 : WhAt K H b ws) (ok : Wok ws) (q : Q (.bl false) H) : rEqM true K (.ref a) (.ref b) H Q := by
  obtain ⟨k1, h1, w1⟩ := h
  obtain ⟨k2, h2, w2⟩ := h2
  exact WR.ne h1 h2 w1 w2 ok q
theorem WhAt.eq {K : PySem.W.Frag} {H : Hp} {Q : VK} {a b : Addr} {ws : Wh} (h : WhAt K H a ws) (h2 : WhAt K H b ws) (ok : Wok ws) (q : Q (.bl true) H) : rEqM false K (.ref a) (.ref b) H Q := by
  obtain ⟨k1, h1, w1⟩ := h
  obtain ⟨k2, h2, w2⟩ := h2
  exact WR.eq h1 h2 w1 w2 ok q
theorem map_twice {f g : Nat × Int × Int → Nat × Int × Int} (h : ∀ e, f (g e) = e) (ws : Wh) : (ws.map g).map f = ws := by
  rw [List.map_map]
  exact (List.map_congr_left fun e _ => h e).trans (List.map_id _)
theorem map_two {f g k : Nat × Int × Int → Nat × Int × Int} (h : ∀ e, f (g e) = k e) (ws : Wh) : (ws.map g).map f = ws.map k := by
  rw [List.map_map]
  exact List.map_congr_left fun e _ => h e
theorem at4n {a b c d : V} {m : Nat} (h : m < 4) (ha : ∃ k : Nat, a = .int k) (hb : ∃ k : Nat, b = .int k) (hc : ∃ k : Nat, c = .int k) (hd : ∃ k : Nat, d = .int k) : ∃ k : Nat, atI [a, b, c, d] (m : Int) = some (.int k) := by
  obtain ⟨a, rfl⟩ := ha
  obtain ⟨b, rfl⟩ := hb
  obtain ⟨c, rfl⟩ := hc
  obtain ⟨d, rfl⟩ := hd
  have e : m = 0 ∨ m = 1 ∨ m = 2 ∨ m = 3 := by omega
  rcases e with rfl | rfl | rfl | rfl
  · exact ⟨a, atI_nat (j := 0) rfl⟩
  · exact ⟨b, atI_nat (j := 1) rfl⟩
  · exact ⟨c, atI_nat (j := 2) rfl⟩
  · exact ⟨d, atI_nat (j := 3) rfl⟩
theorem at4m {a b c d : V} (m : Nat) (ha : ∃ k : Nat, a = .int k) (hb : ∃ k : Nat, b = .int k) (hc : ∃ k : Nat, c = .int k) (hd : ∃ k : Nat, d = .int k) : ∃ k : Nat, atI [a, b, c, d] ((m : Int) % 4) = some (.int k) := by
  have e : ((m : Nat) : Int) % 4 = ((m % 4 : Nat) : Int) := by omega
  rw [e]
  exact at4n (by omega) ha hb hc hd
theorem at2m {a b : V} (x : Int) : ∃ v, (v = a ∨ v = b) ∧ atI [a, b] (x % 2) = some v := by
  obtain ⟨m, e, hm⟩ := emod_nat x (n := 2) (by decide)
  have e2 : x % 2 = (m : Int) := e
  rw [e2]
  have c : m = 0 ∨ m = 1 := by omega
  rcases c with rfl | rfl
  · exact ⟨a, .inl rfl, atI_nat (j := 0) rfl⟩
  · exact ⟨b, .inr rfl, atI_nat (j := 1) rfl⟩
theorem at2n {a b : V} {m : Nat} (h : m < 2) : ∃ v, (v = a ∨ v = b) ∧ atI [a, b] (m : Int) = some v := by
  have e : m = 0 ∨ m = 1 := by omega
  rcases e with rfl | rfl
  · exact ⟨a, .inl rfl, atI_nat (j := 0) rfl⟩
  · exact ⟨b, .inr rfl, atI_nat (j := 1) rfl⟩
theorem upd_tupL {K : PySem.W.Frag} {H : Hp} {l : Addr} {xs : List V} {o : HO} (h : H l = some (.lst xs)) {a : Addr} {ys : List V} (s : SqT K H a ys) : SqT K (upd H l o) a ys := by
  rcases s with (s | ⟨o', s⟩) | s
  · exact .inl (.inl (by rw [upd_ne (ne_of s h (by intro z; cases z))]; exact s))
  · exact .inl (.inr ⟨o', by rw [upd_ne (ne_of s h (by intro z; cases z))]; exact s⟩)
  · exact .inr s
end Tw

set_option Elab.async false
set_option linter.all false
set_option maxRecDepth 100000
namespace L2
open PySem PySem.Spec PyProof.Rows
theorem vals_by {xs : List V} {us : List Value} (hl : xs.length = us.length) (h : ∀ i (hx : i < xs.length) (hu : i < us.length), RelV xs[i] us[i]) : Vals xs us := by
  induction xs generalizing us with
  | nil =>
    cases us with
    | nil => exact .nil
    | cons u us => cases hl
  | cons x xs ih =>
    cases us with
    | nil => cases hl
    | cons u us =>
      exact .cons (h 0 (Nat.succ_pos _) (Nat.succ_pos _)) (ih (Nat.succ.inj hl) fun i hx hu => h (i + 1) (Nat.succ_lt_succ hx) (Nat.succ_lt_succ hu))
def ksV (kvs : List (Key × V)) : List V := kvs.map fun kv => kV kv.1
section
variable {X : Cx}
def rLstD : List V → Hp → VK → Prop := fun xs H Q => ∃ a kvs, xs = [V.ref a] ∧ Rd H a (.dK kvs) ∧ ∀ p, H p = none → Q (.ref p) (upd H p (.lst (ksV kvs)))
theorem call_listD (hc : X.calm = true) : CallR X (.type "list") rLstD := by
  intro pins s σ H xs us Q I r h
  obtain ⟨a, kvs, rfl, ha, q⟩ := h
  obtain ⟨u, rfl, ru⟩ := Vals.one r
  cases (show u = Value.ref a from ru)
  obtain ⟨z, lo, vs, rel, dd⟩ := dk_rd I.hok ha
  obtain ⟨ep, hm⟩ := dd.dictAt
  have hl : vs.length = kvs.length := rel.length.symm
  refine PySem.W.kdl_call (PySem.W.kdl_dict (kvs := vs) (ep := ep) lo) (I.ok.hd hc) hm (by rw [hl]; exact z) fun h' tk acc' c' kp e it => ?_
  have hsz : acc'.size = vs.length := it.1
  refine ⟨.ref s.heap.objs.size, _, I.laid (t' := tk) kp (Nat.le_refl _) (show ObjOk X.prog X.w _ h' _ (.lst (ksV kvs)) from ⟨by unfold ksV; rw [List.length_map]; exact z, acc'.toList, c', ?_, by simpa using e⟩), rfl, q _ (I.hok.fresh (Nat.le_refl _))⟩
  unfold ksV
  have hsz2 : acc'.toList.length = acc'.size := Array.length_toList
  refine vals_by (by rw [List.length_map, hsz2]; omega) fun i hx hu => ?_
  have hu' : i < acc'.size := by simpa using hu
  have hx' : i < kvs.length := by simpa using hx
  obtain ⟨k, x, e1, e2⟩ := it.2 i acc'[i] (by simp [hu'])
  obtain ⟨v, hv, rv⟩ := kv_get rel (show kvs[i]? = some (kvs[i].1, kvs[i].2) from List.getElem?_eq_getElem hx')
  rw [hv] at e1
  cases e1
  have e5 : (kvs.map fun kv => kV kv.1)[i] = kV kvs[i].1 := List.getElem_map ..
  have e6 : acc'.toList[i] = acc'[i] := Array.getElem_toList ..
  rw [e5, e6]
  exact key_rel e2
def Itk (a : Addr) (o : Obj) (kvs : List (Key × V)) : It :=
  ⟨fun i H => H a = some (.frz o (.dK kvs)) ∧ i < kvs.length, fun i H x H' => H' = H ∧ ∃ k v, x = kV k ∧ kvs[i]? = some (k, v), fun i H => H a = some (.frz o (.dK kvs)) ∧ kvs.length ≤ i⟩
end
theorem turn_keys {P : Program} {w : World} {K : PySem.W.Frag} {tg : Expr} (a it : Addr) (o : Obj) (kvs : List (Key × V)) {es : Array DictEntry} {ep : Nat} (hep : o.data = .dict es ep) :
    Turn P w K tg (Itk a o kvs) [it] it (fun i h => h.IsKeyIter it a i kvs.length ep ∧ i ≤ kvs.length) where
  mem := by simp
  obj := fun i h st b hb => by
    have e : b = it := by simpa using hb
    subst e
    obtain ⟨⟨ob, q, _, qd⟩, _⟩ := st
    exact ⟨ob, q, fun v z => by rw [qd] at z; cases z⟩
  keep := fun i h h' st k => by
    obtain ⟨⟨ob, q, r⟩, l⟩ := st
    exact ⟨⟨ob, k it (by simp) _ q, r⟩, l⟩
  item := by
    intro X hP hw hK hc i pins s σ H E I hf st hg
    subst hP hw hK
    obtain ⟨hz, hi⟩ := hg
    obtain ⟨f0, f1, f2, f3, f4, f5⟩ := hf it (by simp)
    obtain ⟨hit, _⟩ := st
    obtain ⟨go, _, _, vs, rel, o', es', ep', g', ex, hd', r'⟩ := (show ObjOk X.prog X.w H s.heap a (.frz o (.dK kvs)) from I.hok a _ hz)
    rw [go] at g'; cases g'
    rw [hep] at hd'; cases hd'
    have hm : s.heap.DictAt (mixKind X.prog X.w) a vs ep := ⟨o, es, go, ex, hep, r'⟩
    have hl : vs.length = kvs.length := rel.length.symm
    obtain ⟨k, x, hx⟩ : ∃ k x, kvs[i]? = some (k, x) := ⟨_, _, List.getElem?_eq_getElem hi⟩
    obtain ⟨v, hv, rv⟩ := kv_get rel hx
    rw [← hl] at hit
    refine wpAny_pyNext_dict_item (knd := mixKind X.prog X.w) hit hm hv fun key h' hkey hit' hs' => ⟨_, rfl, ?_⟩
    obtain ⟨o2, q2, c2, d2⟩ := id hit'
    refine go_of (s := { s with heap := h' }) q2 c2 d2 (by decide) ⟨kV k, H, I.turned (t' := s.toks) (fun b o hb e => hs'.extBut b o hb e) f0 f1 f3 f4 f5, key_rel hkey, ⟨rfl, k, x, rfl, hx⟩, ⟨by rw [← hl]; exact hit', hi⟩, fun b hb => ?_⟩
    have e : b = it := by simpa using hb
    subst e
    exact f0
  done := by
    intro X hP hw hK hc i pins s σ H E I hf st hg
    subst hP hw hK
    obtain ⟨hz, hi⟩ := hg
    obtain ⟨f0, f1, f2, f3, f4, f5⟩ := hf it (by simp)
    obtain ⟨hit, _⟩ := st
    obtain ⟨go, _, _, vs, rel, o', es', ep', g', ex, hd', r'⟩ := (show ObjOk X.prog X.w H s.heap a (.frz o (.dK kvs)) from I.hok a _ hz)
    rw [go] at g'; cases g'
    rw [hep] at hd'; cases hd'
    have hm : s.heap.DictAt (mixKind X.prog X.w) a vs ep := ⟨o, es, go, ex, hep, r'⟩
    have hl : vs.length = kvs.length := rel.length.symm
    rw [← hl] at hit
    exact wpAny_pyNext_dict_end (knd := mixKind X.prog X.w) (I.ok.hd hc) hit hm (List.getElem?_eq_none (by omega)) fun h' eb => ⟨rfl, I.turned (t' := s.toks) (fun b o hb e => eb b o (by simpa using hb) e) f0 f1 f3 f4 f5⟩
  self := fun _ _ _ _ _ st h => by
    exact wpAny_pyIter_keyiter st.1 h
section
variable {X : Cx}
def iKeys (tl : TE) : TI := fun σ H R => tl σ H fun x H1 => ∃ a kvs, x = .ref a ∧ ((H1 a = some (.dK kvs) ∧ ∀ o, R (Itk a o kvs) (upd H1 a (.frz o (.dK kvs)))) ∨ ∃ o, H1 a = some (.frz o (.dK kvs)) ∧ R (Itk a o kvs) H1)
theorem pi_keys {tg : Expr} {l : Expr} {tl : TE} (hl : PE X l tl) : PI X tg l (iKeys tl) := by
  intro pins s σ H R I h
  refine thn (hl pins s σ H _ I h) fun v s1 ⟨x, H1, I1, r1, q1⟩ => ?_
  obtain ⟨a, kvs, rfl, q⟩ := q1
  cases r1
  have rd : Rd H1 a (.dK kvs) := by
    rcases q with ⟨e, _⟩ | ⟨o, e, _⟩
    · exact .inl e
    · exact .inr ⟨o, e⟩
  obtain ⟨z, hsy, vs, rel, dd⟩ := dk_rd I1.hok rd
  obtain ⟨o, es, ep, go, ex, hd, r'⟩ := id dd
  have hm : s1.heap.DictAt (mixKind X.prog X.w) a vs ep := ⟨o, es, go, ex, hd, r'⟩
  refine wpAny_pyIter_dict (knd := mixKind X.prog X.w) (d := a) (kvs := vs) (ep := ep) hsy hm ?_
  have I3 : ∀ H2, Inv X pins σ H2 s1 → Inv X pins σ H2 { s1 with heap := s1.heap.push { cls := .type "dict_keyiterator", data := .fields #[.ref a, .int 0 0, .int vs.length 0, .int ep 0] } } := fun H2 J => J.kept (t' := s1.toks) fun b ob e => Heap.get?_push_of_some _ e
  have hln : vs.length = kvs.length := rel.length.symm
  have st : ∀ i, i = 0 → (s1.heap.push { cls := .type "dict_keyiterator", data := .fields #[.ref a, .int 0 0, .int vs.length 0, .int ep 0] }).IsKeyIter s1.heap.objs.size a i kvs.length ep ∧ i ≤ kvs.length := fun i hi => by
    subst hi
    refine ⟨⟨_, Heap.get?_push_size _ rfl, rfl, ?_⟩, Nat.zero_le _⟩
    rw [hln]
    rfl
  rcases q with ⟨e, q⟩ | ⟨o2, e, q⟩
  · have J := I1.freeze e go
    refine ⟨s1.heap.objs.size, [s1.heap.objs.size], _, _, _, rfl, I3 _ J, turn_keys a _ o kvs hd, st 0 rfl, fun b hb => ?_, q o⟩
    have e : b = s1.heap.objs.size := by simpa using hb
    subst e
    exact J.fpOk (Nat.le_refl _) (J.hok.fresh (Nat.le_refl _))
  · have x : s1.heap.get? a = some o2 := (show s1.heap.get? a = some o2 ∧ _ from I1.hok a _ e).1
    rw [go] at x; cases x
    refine ⟨s1.heap.objs.size, [s1.heap.objs.size], _, _, _, rfl, I3 _ I1, turn_keys a _ o kvs hd, st 0 rfl, fun b hb => ?_, q⟩
    have e : b = s1.heap.objs.size := by simpa using hb
    subst e
    exact I1.fpOk (Nat.le_refl _) (I1.hok.fresh (Nat.le_refl _))
end
section
variable {K : PySem.W.Frag} {tl : TE} {tt : TT} {te : TE} {Q : VK} {σ : St} {H : Hp} {a b : Addr} {kvs : List (Key × V)} {g : TG} {tb : TS} {D : Ends}
theorem st_cpK (e : ∀ P : V → Hp → Prop, P (.ref a) H → tl σ H P) (h : H a = some (.dK kvs)) (hn : kvs.length ≤ 1000) (Pv : Obj → Nat → List V → Hp → Prop)
    (h0 : ∀ o, Pv o 0 [] (upd H a (.frz o (.dK kvs)))) (hl : ∀ o i ys H, Pv o i ys H → ys.length ≤ i) (hk : ∀ o i ys H, Pv o i ys H → H a = some (.frz o (.dK kvs)))
    (hs : ∀ o i k v ys H, kvs[i]? = some (k, v) → Pv o i ys H → tt (some (kV k) :: σ) H fun b H2 => if b = true then te (some (kV k) :: σ) H2 fun y H3 => Pv o (i + 1) (ys ++ [y]) H3 else Pv o (i + 1) ys H2)
    (hd : ∀ o ys H, Pv o kvs.length ys H → ∀ p, H p = none → Q (.ref p) (upd (upd H p (.lst ys)) a (.dK kvs))) : tThawE (tComp (iKeys tl) tt te) σ H Q := by
  refine ⟨a, kvs, h, e _ ⟨a, kvs, rfl, .inl ⟨h, fun o => ⟨fun i m ys H => m = kvs.length - i ∧ i ≤ kvs.length ∧ Pv o i ys H, ⟨kvs.length, by simp, Nat.zero_le _, h0 o⟩, ?_⟩⟩⟩⟩
  rintro i m ys H ⟨rfl, hi, p⟩
  by_cases hlt : i < kvs.length
  · refine .inr ⟨⟨hk o i ys H p, hlt⟩, small1000 (by have := hl o i ys H p; omega), Pv o (i + 1), fun σ' H' p' => ⟨kvs.length - (i + 1), by omega, rfl, hlt, p'⟩, fun x H' y => ?_⟩
    obtain ⟨rfl, k, v, rfl, hx⟩ := y
    exact hs o i k v ys _ hx p
  · have e : i = kvs.length := by omega
    subst e
    refine .inl ⟨⟨hk o _ ys H p, Nat.le_refl _⟩, fun q hq => ⟨o, ?_, hd o ys H p q hq⟩⟩
    rw [upd_ne (ne_of_none (hk o _ ys H p) hq)]
    exact hk o _ ys H p
theorem st_for_keys (e : ∀ P : V → Hp → Prop, P (.ref a) H → tl σ H P) (h : H a = some (.dK kvs)) (Pv : Obj → Nat → St → Hp → Prop)
    (h0 : ∀ o, Pv o 0 σ (upd H a (.frz o (.dK kvs)))) (hk : ∀ o i σ H, Pv o i σ H → H a = some (.frz o (.dK kvs)))
    (hs : ∀ o i k v σ H, kvs[i]? = some (k, v) → Pv o i σ H → g (kV k) σ H fun σ2 H2 => tb { D.thaw a kvs with nx := Pv o (i + 1), ct := Pv o (i + 1), bk := (D.thaw a kvs).nx } σ2 H2)
    (hd : ∀ o σ H, Pv o kvs.length σ H → D.nx σ (upd H a (.dK kvs))) : tThaw (tFor (iKeys tl) g tb) D σ H := by
  refine .inr ⟨a, kvs, h, e _ ⟨a, kvs, rfl, .inl ⟨h, fun o => ⟨fun i m σ H => m = kvs.length - i ∧ i ≤ kvs.length ∧ Pv o i σ H, ⟨kvs.length, by simp, Nat.zero_le _, h0 o⟩, ?_⟩⟩⟩⟩
  rintro i m σ H ⟨rfl, hi, p⟩
  by_cases hlt : i < kvs.length
  · refine .inr ⟨⟨hk o i σ H p, hlt⟩, Pv o (i + 1), fun σ' H' p' => ⟨kvs.length - (i + 1), by omega, rfl, hlt, p'⟩, fun x H' y => ?_⟩
    obtain ⟨rfl, k, v, rfl, hx⟩ := y
    exact hs o i k v σ _ hx p
  · have e : i = kvs.length := by omega
    subst e
    exact .inl ⟨⟨hk o _ σ H p, Nat.le_refl _⟩, o, hk o _ σ H p, hd o σ H p⟩
theorem st_for_keysF {o : Obj} (e : ∀ P : V → Hp → Prop, P (.ref a) H → tl σ H P) (h : H a = some (.frz o (.dK kvs))) (Pv : Nat → St → Hp → Prop)
    (h0 : Pv 0 σ H) (hk : ∀ i σ H, Pv i σ H → H a = some (.frz o (.dK kvs)))
    (hs : ∀ i k v σ H, kvs[i]? = some (k, v) → Pv i σ H → g (kV k) σ H fun σ2 H2 => tb { D with nx := Pv (i + 1), ct := Pv (i + 1), bk := D.nx } σ2 H2)
    (hd : ∀ σ H, Pv kvs.length σ H → D.nx σ H) : tThaw (tFor (iKeys tl) g tb) D σ H := by
  refine .inl (e _ ⟨a, kvs, rfl, .inr ⟨o, h, fun i m σ H => m = kvs.length - i ∧ i ≤ kvs.length ∧ Pv i σ H, ⟨kvs.length, by simp, Nat.zero_le _, h0⟩, ?_⟩⟩)
  rintro i m σ H ⟨rfl, hi, p⟩
  by_cases hlt : i < kvs.length
  · refine .inr ⟨⟨hk i σ H p, hlt⟩, Pv (i + 1), fun σ' H' p' => ⟨kvs.length - (i + 1), by omega, rfl, hlt, p'⟩, fun x H' y => ?_⟩
    obtain ⟨rfl, k, v, rfl, hx⟩ := y
    exact hs i k v σ _ hx p
  · have e : i = kvs.length := by omega
    subst e
    exact .inl ⟨⟨hk _ σ H p, Nat.le_refl _⟩, hd σ H p⟩
theorem st_listD (h : Rd H a (.dK kvs)) (q : ∀ p, H p = none → Q (.ref p) (upd H p (.lst (ksV kvs)))) : rLstD [.ref a] H Q := ⟨a, kvs, rfl, h, q⟩
theorem st_dget {td ty : TE} (h : td σ H fun x H1 => ty σ H1 fun y H2 => ∃ a v, x = .ref a ∧ DGet H2 a y (some v) ∧ Q v H2) : tDGet td ty σ H Q := h
theorem rNeD_one {i j : Int} (ha : SqL K H a [.int i]) (hb : SqL K H b [.int j]) (q : Q (.bl (!decide ([i] = [j]))) H) : rNeD K (.ref a) (.ref b) H Q :=
  ⟨_, _, .lst ha (dvs_ints [i]), .lst hb (dvs_ints [j]), rfl, rfl, by rw [PyData.eqv, eqv_ints]; exact q⟩
theorem rEqD_nil (ha : SqL K H a []) (hb : SqL K H b []) (q : Q (.bl true) H) : rEqD K (.ref a) (.ref b) H Q :=
  ⟨_, _, .lst ha .nil, .lst hb .nil, rfl, rfl, by rw [PyData.eqv]; exact q⟩
end
end L2

set_option Elab.async false
set_option linter.all false
set_option maxRecDepth 100000
namespace L2
open PySem PySem.Spec PyProof.Rows
def ItB (K : PySem.W.Frag) (a : Addr) (n : Nat) : It :=
  ⟨fun i H => ∃ xs x, SqL K H a xs ∧ xs.length = n ∧ i < n ∧ xs[n - 1 - i]? = some x, fun i H x H' => H' = H ∧ ∀ xs, SqL K H a xs → xs[n - 1 - i]? = some x, fun i _ => n ≤ i⟩
theorem turn_back {P : Program} {w : World} {K : PySem.W.Frag} {tg : Expr} (a it : Addr) (n : Nat) : Turn P w K tg (ItB K a n) [it] it (fun i h => i ≤ n ∧ h.IsRevIter it a ((n : Int) - 1 - (i : Nat))) where
  mem := List.mem_singleton.mpr rfl
  obj := fun i h st b hb => by
    cases List.mem_singleton.mp hb
    obtain ⟨_, o, e, c, d⟩ := st
    exact ⟨o, e, fun v z => by rw [d] at z; cases z⟩
  keep := fun i h h' st k => ⟨st.1, st.2.at fun o e => k it (List.mem_singleton.mpr rfl) o e⟩
  item := by
    intro X hP hw hK hc i pins s σ H E I hf st hg
    subst hP hw hK
    obtain ⟨xs, x, hq, hn, hi, hx⟩ := hg
    obtain ⟨its, rv, p, hz⟩ := I.list hq
    obtain ⟨u, hu, ru⟩ := rv.get hx
    obtain ⟨f0, f1, f2, f3, f4, f5⟩ := hf it (List.mem_singleton.mpr rfl)
    have st0 : s.heap.IsRevIter it a ((n - 1 - i : Nat) : Int) := by
      have e : (n : Int) - 1 - (i : Nat) = ((n - 1 - i : Nat) : Int) := by omega
      rw [← e]
      exact st.2
    refine wpAny_pyNext_rev_item st0 p.isList (x := u) (by simpa using hu) fun h' st' sb => ?_
    have st2 : h'.IsRevIter it a ((n : Int) - 1 - ((i + 1 : Nat) : Int)) := by
      have e : (n : Int) - 1 - ((i + 1 : Nat) : Int) = ((n - 1 - i : Nat) : Int) - 1 := by omega
      rw [e]
      exact st'
    have I1 : Inv X pins σ H { s with heap := h' } := I.turned (t' := s.toks) (fun b o hb e => (sb.2 b hb).trans e) f0 f1 f3 f4 f5
    obtain ⟨o, e, c, d⟩ := id st'
    exact ⟨u, rfl, go_of (s := { s with heap := h' }) e c d (by decide) ⟨x, H, I1, ru, ⟨rfl, fun ys hy => by rw [I.list_inj hy hq]; exact hx⟩, ⟨hi, st2⟩, fun b hb => (hf b hb).1⟩⟩
  done := by
    intro X hP hw hK hc i pins s σ H E I hf st hg
    subst hP hw hK
    have hg' : n ≤ i := hg
    obtain ⟨f0, f1, f2, f3, f4, f5⟩ := hf it (List.mem_singleton.mpr rfl)
    have st0 : s.heap.IsRevIter it a (-1) := by
      have e : (n : Int) - 1 - (i : Nat) = -1 := by have := st.1; omega
      rw [← e]
      exact st.2
    exact wpAny_pyNext_rev_end (I.ok.hd hc) st0 fun h' eb => ⟨rfl, I.turned (t' := s.toks) (fun b o hb e => eb b o hb e) f0 f1 f3 f4 f5⟩
  self := fun _ _ _ _ _ st h => wpAny_pyIter_revIter st.2 h
theorem boot_reversed : bootBuiltins "reversed" = some (.type "reversed") := by decide +kernel
def iRev (K : PySem.W.Frag) (ta : TA) : TI := fun σ H R => ta σ H fun vs H1 => ∃ a xs, vs = [.ref a] ∧ SqL K H1 a xs ∧ R (ItB K a xs.length) H1
section
variable {X : Cx} {tg : Expr}
theorem pi_rev {a : Expr} {ta : TA} {p pos : Pos} (hg : Gl X "reversed") (hm : X.mg "reversed" = none) (ha : PA X [a] ta) (hs : starEach [a] X.env = [(false, eval a X.env)] := by rfl) : PI X tg (.Call (.Name "reversed" p) [a] [] pos) (iRev X.K ta) := by
  intro pins s σ H R I h
  refine Call_ (ld_blt I hg hm boot_reversed (PyProof.Rows.callWith_type1 (thn (ha pos pins s σ H _ I h) fun us s1 ⟨vs, H1, I1, r1, q1⟩ => ?_) hs rfl))
  obtain ⟨b, xs, e, hq, q⟩ := q1
  subst e
  cases r1 with
  | cons r rr =>
    cases rr
    cases r
    obtain ⟨its, rv, p, hz⟩ := I1.list hq
    refine call_reversed_list p.isList ?_
    have hl := rv.length
    have I2 : Inv X pins σ H1 { s1 with heap := s1.heap.push (revObj b ((its.toArray.size : Int) - 1)) } := I1.kept (t' := s1.toks) fun b o e => Heap.get?_push_of_some _ e
    have st : (s1.heap.push (revObj b ((its.toArray.size : Int) - 1))).IsRevIter s1.heap.objs.size b ((xs.length : Int) - 1 - ((0 : Nat) : Int)) := by
      refine ⟨_, Heap.get?_push_size _ rfl, rfl, ?_⟩
      have e : (its.toArray.size : Int) - 1 = (xs.length : Int) - 1 - ((0 : Nat) : Int) := by
        rw [List.size_toArray, hl]
        omega
      rw [e]
      rfl
    refine wpAny_pyIter_revIter st ⟨s1.heap.objs.size, [s1.heap.objs.size], _, _, H1, rfl, I2, turn_back b _ xs.length, ⟨Nat.zero_le _, st⟩, fun c hc => ?_, q⟩
    cases List.mem_singleton.mp hc
    exact I1.fpOk (Nat.le_refl _) (I1.hok.fresh (Nat.le_refl _))
end
section
variable {K : PySem.W.Frag} {a : Addr} {xs : List V} {g : TG} {tb : TS} {D : Ends} {σ : St} {H : Hp}
theorem st_for_back {ta : TE} (e : ∀ P : V → Hp → Prop, P (.ref a) H → ta σ H P) (s : SqL K H a xs) (Pv : Nat → St → Hp → Prop) (h0 : Pv 0 σ H) (hl : ∀ i σ H, i ≤ xs.length → Pv i σ H → SqL K H a xs)
    (hs : ∀ i x σ H, i < xs.length → xs.reverse[i]? = some x → Pv i σ H → g x σ H fun σ2 H2 => tb { D with nx := Pv (i + 1), ct := Pv (i + 1), bk := D.nx } σ2 H2) (hd : ∀ σ H, Pv xs.length σ H → D.nx σ H) : tFor (iRev K (tCons ta tNil)) g tb D σ H := by
  refine e _ ⟨a, xs, rfl, s, fun i m σ H => m = xs.length - i ∧ i ≤ xs.length ∧ Pv i σ H, ⟨xs.length, by simp, Nat.zero_le _, h0⟩, ?_⟩
  rintro i m σ H ⟨rfl, hi, p⟩
  have q := hl i σ H hi p
  by_cases hlt : i < xs.length
  · have hj : xs.length - 1 - i < xs.length := by omega
    refine .inr ⟨⟨xs, xs[xs.length - 1 - i], q, rfl, hlt, by simp [hj]⟩, Pv (i + 1), fun σ' H' p' => ⟨xs.length - (i + 1), by omega, rfl, hlt, p'⟩, fun x H' y => ?_⟩
    obtain ⟨e, y⟩ := y
    subst e
    refine hs i x σ _ hlt ?_ p
    rw [List.getElem?_reverse hlt]
    exact y xs q
  · have e : i = xs.length := by omega
    subst e
    exact .inl ⟨Nat.le_refl _, hd σ H p⟩
end
theorem comp_lst {K : PySem.W.Frag} {a : Addr} {xs : List V} {tt : TT} {te : TE} {Q : VK} {σ : St} {H : Hp} (Pv : Nat → List V → Hp → Prop) (hn : xs.length ≤ 1000) (h0 : Pv 0 [] H) (hl : ∀ i ys H, Pv i ys H → ys.length ≤ i) (hk : ∀ i ys H, Pv i ys H → SqL K H a xs)
    (hs : ∀ i x ys H, xs[i]? = some x → Pv i ys H → tt (some x :: σ) H fun b H2 => if b = true then te (some x :: σ) H2 fun y H3 => Pv (i + 1) (ys ++ [y]) H3 else Pv (i + 1) ys H2)
    (hd : ∀ ys H, Pv xs.length ys H → ∀ p, H p = none → Q (.ref p) (upd H p (.lst ys))) :
    ∃ W : Nat → Nat → List V → Hp → Prop, (∃ m, W 0 m [] H) ∧ ∀ i m ys H, W i m ys H → ((Itl K a).stop i H ∧ ∀ p, H p = none → Q (.ref p) (upd H p (.lst ys))) ∨
      ((Itl K a).go i H ∧ ys.length < sizeLine ∧ ∃ N : List V → Hp → Prop, (∀ ys' H', N ys' H' → ∃ m', m' < m ∧ W (i + 1) m' ys' H') ∧
        ∀ x H', (Itl K a).yld i H x H' → tt (some x :: σ) H' fun b H2 => if b = true then te (some x :: σ) H2 fun y H3 => N (ys ++ [y]) H3 else N ys H2) := by
  refine ⟨fun i m ys H => m = xs.length - i ∧ i ≤ xs.length ∧ Pv i ys H, ⟨xs.length, by simp, Nat.zero_le _, h0⟩, ?_⟩
  rintro i m ys H ⟨rfl, hi, p⟩
  by_cases hlt : i < xs.length
  · refine .inr ⟨⟨xs, xs[i], hk i ys H p, by simp [hlt]⟩, small1000 (by have := hl i ys H p; omega), Pv (i + 1), fun ys' H' p' => ⟨xs.length - (i + 1), by omega, rfl, hlt, p'⟩, fun x H' y => ?_⟩
    obtain ⟨e, y⟩ := y
    subst e
    exact hs i x ys _ (y xs (hk i ys _ p)) p
  · have e : i = xs.length := by omega
    subst e
    exact .inl ⟨⟨xs, hk _ ys H p, Nat.le_refl _⟩, hd ys H p⟩
theorem st_comp_lst {K : PySem.W.Frag} {a : Addr} {xs : List V} {tl : TE} {tt : TT} {te : TE} {Q : VK} {σ : St} {H : Hp} (e : ∀ P : V → Hp → Prop, P (.ref a) H → tl σ H P) (s : SqL K H a xs) (Pv : Nat → List V → Hp → Prop) (hn : xs.length ≤ 1000) (h0 : Pv 0 [] H) (hl : ∀ i ys H, Pv i ys H → ys.length ≤ i) (hk : ∀ i ys H, Pv i ys H → SqL K H a xs)
    (hs : ∀ i x ys H, xs[i]? = some x → Pv i ys H → tt (some x :: σ) H fun b H2 => if b = true then te (some x :: σ) H2 fun y H3 => Pv (i + 1) (ys ++ [y]) H3 else Pv (i + 1) ys H2)
    (hd : ∀ ys H, Pv xs.length ys H → ∀ p, H p = none → Q (.ref p) (upd H p (.lst ys))) : tComp (iList K tl) tt te σ H Q :=
  e _ ⟨a, rfl, ⟨xs, s⟩, comp_lst Pv hn h0 hl hk hs hd⟩
end L2

set_option Elab.async false
set_option linter.all false
set_option maxRecDepth 100000
namespace Tw
open PySem L2
def gm (p q : Int × Int) : Int × Int := (p.1 * q.1 - p.2 * q.2, p.1 * q.2 + p.2 * q.1)
theorem gm_comm (p q : Int × Int) : gm p q = gm q p := by
  unfold gm
  apply Prod.ext
  · show p.1 * q.1 - p.2 * q.2 = q.1 * p.1 - q.2 * p.2
    grind
  · show p.1 * q.2 + p.2 * q.1 = q.1 * p.2 + q.2 * p.1
    grind
theorem gm_lc (p q r : Int × Int) : gm p (gm q r) = gm q (gm p r) := by
  unfold gm
  apply Prod.ext
  · show p.1 * (q.1 * r.1 - q.2 * r.2) - p.2 * (q.1 * r.2 + q.2 * r.1) = q.1 * (p.1 * r.1 - p.2 * r.2) - q.2 * (p.1 * r.2 + p.2 * r.1)
    grind
  · show p.1 * (q.1 * r.2 + q.2 * r.1) + p.2 * (q.1 * r.1 - q.2 * r.2) = q.1 * (p.1 * r.2 + p.2 * r.1) + q.2 * (p.1 * r.1 - p.2 * r.2)
    grind
theorem gm_one (p : Int × Int) : gm p (1, 0) = p := by
  unfold gm
  apply Prod.ext
  · show p.1 * 1 - p.2 * 0 = p.1
    omega
  · show p.1 * 0 + p.2 * 1 = p.2
    omega
theorem sq_ne {p : Int × Int} (h : p ≠ (0, 0)) : p.1 * p.1 + p.2 * p.2 ≠ 0 := fun z => h (by
  have e1 : ((p.1.natAbs * p.1.natAbs : Nat) : Int) = p.1 * p.1 := Int.natAbs_mul_self
  have e2 : ((p.2.natAbs * p.2.natAbs : Nat) : Int) = p.2 * p.2 := Int.natAbs_mul_self
  rw [← e1, ← e2] at z
  have z1 : p.1.natAbs * p.1.natAbs = 0 := by omega
  have z2 : p.2.natAbs * p.2.natAbs = 0 := by omega
  have y1 : p.1.natAbs = 0 := by rcases Nat.mul_eq_zero.mp z1 with y | y <;> exact y
  have y2 : p.2.natAbs = 0 := by rcases Nat.mul_eq_zero.mp z2 with y | y <;> exact y
  exact Prod.ext (by show p.1 = 0; omega) (by show p.2 = 0; omega))
theorem gm_cancel {p q r : Int × Int} (h : p ≠ (0, 0)) (e : gm p q = gm p r) : q = r := by
  have h0 := sq_ne h
  have e1 : p.1 * q.1 - p.2 * q.2 = p.1 * r.1 - p.2 * r.2 := congrArg Prod.fst e
  have e2 : p.1 * q.2 + p.2 * q.1 = p.1 * r.2 + p.2 * r.1 := congrArg Prod.snd e
  have k1 : (p.1 * p.1 + p.2 * p.2) * q.1 = (p.1 * p.1 + p.2 * p.2) * r.1 := by grind
  have k2 : (p.1 * p.1 + p.2 * p.2) * q.2 = (p.1 * p.1 + p.2 * p.2) * r.2 := by grind
  exact Prod.ext (Int.eq_of_mul_eq_mul_left h0 k1) (Int.eq_of_mul_eq_mul_left h0 k2)
theorem gm_ne {p q : Int × Int} (hp : p ≠ (0, 0)) (hq : q ≠ (0, 0)) : gm p q ≠ (0, 0) := fun z => hq (gm_cancel hp (z.trans (by
  unfold gm
  apply Prod.ext
  · show (0 : Int) = p.1 * 0 - p.2 * 0
    omega
  · show (0 : Int) = p.1 * 0 + p.2 * 0
    omega)))
theorem gm_abs {p q : Int × Int} {M N : Nat} (hp : p.1.natAbs < M ∧ p.2.natAbs < M) (hq : q.1.natAbs < N ∧ q.2.natAbs < N) : (gm p q).1.natAbs < 2 * (M * N) ∧ (gm p q).2.natAbs < 2 * (M * N) := by
  have m : ∀ {a b : Int}, a.natAbs < M → b.natAbs < N → (a * b).natAbs < M * N := fun {a b} ha hb => by
    rw [Int.natAbs_mul]
    exact Nat.mul_lt_mul'' ha hb
  have a1 := m hp.1 hq.1
  have a2 := m hp.2 hq.2
  have a3 := m hp.1 hq.2
  have a4 := m hp.2 hq.1
  unfold gm
  constructor
  · show (p.1 * q.1 - p.2 * q.2).natAbs < _
    omega
  · show (p.1 * q.2 + p.2 * q.1).natAbs < _
    omega
def wv (ws : Wh) (b : Nat) : Int × Int := (wat ws b).getD (0, 0)
def Due (ws us : Wh) : Prop := (∀ b, b ∈ ws.map (·.1) ↔ b ∈ us.map (·.1)) ∧ ∀ h ∈ ws.map (·.1), ∀ t ∈ ws.map (·.1), gm (wv ws h) (wv us t) = gm (wv us h) (wv ws t)
theorem due_symm {ws us : Wh} (d : Due ws us) : Due us ws :=
  ⟨fun b => (d.1 b).symm, fun h hh t ht => by
    have := d.2 t ((d.1 t).mpr ht) h ((d.1 h).mpr hh)
    rw [gm_comm (wv us h), gm_comm (wv ws h)]
    exact this⟩
theorem due_first {ws us : Wh} {f : Nat} (hk : ∀ b, b ∈ ws.map (·.1) ↔ b ∈ us.map (·.1)) (hf : f ∈ ws.map (·.1)) (h0 : wv ws f ≠ (0, 0)) : Due ws us ↔ ∀ b ∈ ws.map (·.1), gm (wv ws f) (wv us b) = gm (wv ws b) (wv us f) := by
  constructor
  · intro d b hb
    rw [d.2 f hf b hb, gm_comm]
  · intro h
    refine ⟨hk, fun x hx t ht => gm_cancel h0 ?_⟩
    have ex := h x hx
    have et := h t ht
    rw [gm_lc (wv ws f) (wv ws x), et, gm_comm (wv us x) (wv ws t), gm_lc (wv ws f) (wv ws t), ex, gm_lc (wv ws x)]
def wtm (c : Int × Int) (ws : Wh) : Wh := ws.map fun e => (e.1, gm e.2 c)
theorem wtm_keys (c : Int × Int) (ws : Wh) : (wtm c ws).map (·.1) = ws.map (·.1) := by
  unfold wtm
  rw [List.map_map]
  rfl
theorem wtm_one (ws : Wh) : wtm (1, 0) ws = ws := by
  unfold wtm
  exact (List.map_congr_left (g := id) fun e _ => by rw [gm_one]; rfl).trans (List.map_id _)
theorem wtm_at (c : Int × Int) : ∀ (ws : Wh) {b : Nat}, b ∈ ws.map (·.1) → wv (wtm c ws) b = gm (wv ws b) c
  | [], b, h => by cases h
  | (k, p) :: ws, b, h => by
    by_cases e : k = b
    · subst e
      unfold wv
      rw [show wtm c ((k, p) :: ws) = (k, gm p c) :: wtm c ws from rfl, wat_hd, wat_hd]
      rfl
    · have h' : b ∈ ws.map (·.1) := by
        rcases List.mem_cons.mp h with z | z
        · exact (e z.symm).elim
        · exact z
      have ih := wtm_at c ws h'
      unfold wv at ih ⊢
      rw [show wtm c ((k, p) :: ws) = (k, gm p c) :: wtm c ws from rfl, wat_cons e, wat_cons e]
      exact ih
theorem due_times (ws : Wh) (c d : Int × Int) : Due (wtm c ws) (wtm d ws) := by
  refine ⟨fun b => by rw [wtm_keys, wtm_keys], fun h hh t ht => ?_⟩
  rw [wtm_keys] at hh ht
  rw [wtm_at c ws hh, wtm_at d ws hh, wtm_at c ws ht, wtm_at d ws ht]
  generalize wv ws h = p
  generalize wv ws t = q
  rw [gm_comm (gm p c), gm_comm (gm p d), gm_comm p c, gm_comm p d, gm_comm q d, gm_comm q c]
  rw [gm_lc (gm d q) c p, gm_lc (gm c q) d p]
  rw [gm_comm (gm d q) p, gm_comm (gm c q) p, gm_lc p d q, gm_lc p c q, gm_lc c d]
theorem due_left (ws : Wh) (d : Int × Int) : Due ws (wtm d ws) := by
  have := due_times ws (1, 0) d
  rw [wtm_one] at this
  exact this
theorem due_self (ws : Wh) : Due ws ws := by
  have := due_left ws (1, 0)
  rw [wtm_one] at this
  exact this
end Tw

set_option Elab.async false
set_option linter.all false
set_option maxRecDepth 100000
namespace L2
open PySem PySem.Spec PyProof.Rows
section
variable {prog : Program} {w : World} {A : Around} {E : Value → Shared → Prop} {s : Shared} {K : Type} [DecidableEq K] {knd : KeyKind prog w K} {d : Addr} {kvs : List (K × Value)} {ep : Nat}
theorem tw_collect_dict {Q : List Value → Shared → Prop} (hh : A.handled = none) (lo : (d == sysModules) = false) (hm : s.heap.DictAt knd d kvs ep) (hn : kvs.length ≤ sizeLine)
    (h : ∀ (h' : Heap) (tk : Nat) (vs : List Value), (∀ b o, s.heap.get? b = some o → h'.get? b = some o) → s.heap.objs.size ≤ h'.objs.size → vs.length = kvs.length → (∀ (j : Nat) (v : Value), vs[j]? = some v → ∃ k x, kvs[j]? = some (k, x) ∧ knd.is k v = true) → Q vs { s with heap := h', toks := tk }) :
    wpAny (model prog w) A (collect (.ref d)) Q E s := by
  unfold collect
  refine wpAny_bind (wpAny_runValue (codeAny_builtin entry_proto_collect' ?_))
  show wpAny _ _ (do again (.builtin "list.__iadd__" ⟨[← newList [], .ref d], []⟩)) _ _ s
  refine wpAny_bind (wpAny_newList (wpAny_pure ⟨Code.quiet_builtin _ (by decide +kernel), codeAny_builtin entry_list_iadd' ?_⟩))
  show wpAny _ _ (Builtin.List.listExtendWith (.ref s.heap.objs.size) (.ref d) (.ref s.heap.objs.size)) _ _ { s with heap := s.heap.push (seqObj "list" #[] 0) }
  have hlt := hm.lt_size
  rw [Around.under_plainId (show plainId "list.__iadd__" = true by decide +kernel)]
  refine PySem.W.kdl_extend (R := fun r s' => match r with
      | .ok (.ret v) => wpAny (model prog w) A (match v with
        | .ref a => do
          let o ← load a
          match o.data with
          | .seq xs _ => pure xs.toList
          | _ => unsupported "internal:collect"
        | _ => unsupported "internal:collect") Q E s'
      | .ok _ => False
      | .error e => E e s') (s := { s with heap := s.heap.push (seqObj "list" #[] 0) }) (PySem.W.kdl_dict (knd := knd) (kvs := kvs) (ep := ep) lo) hh (hm.push _) _ (Nat.ne_of_gt hlt) (Nat.ne_of_gt hlt) _ 0 (Heap.get?_push_size _ rfl) (fun h' tk acc' c' hk hS' hacc => ?_) hn
  show wpAny (model prog w) A (do
      let o ← load s.heap.objs.size
      match o.data with
      | .seq xs _ => pure xs.toList
      | _ => unsupported "internal:collect") Q E { s with heap := h', toks := tk }
  refine wpAny_bind (wpAny_load hS' ?_)
  show wpAny _ _ (pure acc'.toList) Q E _
  refine wpAny_pure (h h' tk acc'.toList (fun b o e => hk b o (Nat.ne_of_lt (Heap.lt_size e)) (Heap.get?_push_of_some _ e)) (Nat.le_of_lt (Heap.lt_size hS')) (by rw [Array.length_toList]; exact hacc.1) fun j v e => hacc.2 j v (by rw [← Array.getElem?_toList]; exact e))
end
theorem ints_vals : ∀ {vs : List Value} {ns : List Int}, IntsAre vs ns → Vals (ns.map V.int) vs
  | _, _, .nil => .nil
  | _, _, .cons n t r => .cons ⟨t, rfl⟩ (ints_vals r)
theorem ints_by : ∀ {vs : List Value} {ns : List Int}, vs.length = ns.length → (∀ (j : Nat) (v : Value) (n : Int), vs[j]? = some v → ns[j]? = some n → ∃ t, v = .int n t) → IntsAre vs ns
  | [], [], _, _ => .nil
  | v :: vs, n :: ns, hl, h => by
    obtain ⟨t, rfl⟩ := h 0 v n rfl rfl
    exact .cons n t (ints_by (Nat.succ.inj hl) fun j v n e1 e2 => h (j + 1) v n e1 e2)
  | [], _ :: _, hl, _ => by cases hl
  | _ :: _, [], hl, _ => by cases hl
def KInts (kvs : List (Key × V)) (ns : List Int) : Prop := kvs.map (·.1) = ns.map Sum.inl
theorem kints_at {kvs : List (Key × V)} {ns : List Int} {vs : List (Key × Value)} (h : KInts kvs ns) (rel : KV kvs vs) {P : Program} {w : World} {j : Nat} {k : Key} {x v : Value} {n : Int} (e1 : vs[j]? = some (k, x)) (e2 : (mixKind P w).is k v = true) (e3 : ns[j]? = some n) : ∃ t, v = .int n t := by
  have hv : vs.map (·.1) = ns.map Sum.inl := (rel.keys).symm.trans h
  have e4 : (vs.map (·.1))[j]? = some k := by rw [List.getElem?_map, e1]; rfl
  rw [hv, List.getElem?_map, e3] at e4
  have e5 : k = .inl n := (Option.some.inj e4).symm
  subst e5
  exact key_rel e2
theorem kints_len {kvs : List (Key × V)} {ns : List Int} (h : KInts kvs ns) : kvs.length = ns.length := by
  have := congrArg List.length h
  rw [List.length_map, List.length_map] at this
  exact this
section
variable {X : Cx}
def rBestD (le : Int → Int → Prop) : List V → Hp → VK → Prop := fun xs H Q => ∃ a kvs ns, xs = [V.ref a] ∧ Rd H a (.dK kvs) ∧ KInts kvs ns ∧ 0 < ns.length ∧ ∀ M, M ∈ ns → (∀ a ∈ ns, le a M) → Q (.int M) H
theorem call_minD (hc : X.calm = true) : CallR X (.builtin "min") (rBestD fun a M => M ≤ a) := by
  intro pins s σ H xs us Q I r h
  obtain ⟨a, kvs, ns, rfl, ha, hk, hne, q⟩ := h
  obtain ⟨u, rfl, ru⟩ := vals1 r
  cases ru
  obtain ⟨z, lo, vs, rel, dd⟩ := dk_rd I.hok ha
  obtain ⟨ep, hm⟩ := dd.dictAt
  have hlt := hm.lt_size
  have hl1 := kints_len hk
  have hl2 : vs.length = kvs.length := rel.length.symm
  refine call_min_walk (wpAny_pyIter_dict (knd := mixKind X.prog X.w) lo hm ?_)
  refine ⟨_, [_, a], [_], _, _, _, _, rfl, Walks.dictKeys (A := X.A.in1) (I.ok.hd hc) _ a (Nat.ne_of_lt hlt) vs ep, ⟨⟨_, Heap.get?_push_size _ rfl, rfl, rfl⟩, hm.push _⟩, fun c hc' => ?_, by omega, CmpOf.ints_lt (fun i => ns.getD i 0) (fun i v hP => ?_), fun v h' tk hP hk' => ?_⟩
  · show c < (s.heap.push _).objs.size
    rw [Heap.size_push]
    rcases List.mem_cons.mp hc' with rfl | hc'
    · exact Nat.lt_succ_self _
    · rcases List.mem_cons.mp hc' with rfl | hc'
      · exact Nat.lt_succ_of_lt hlt
      · cases hc'
  · obtain ⟨k, x, e1, e2⟩ := hP
    have hi : i < ns.length := by
      have := (List.getElem?_eq_some_iff.mp e1).1
      omega
    refine kints_at hk rel e1 e2 ?_
    rw [List.getD_eq_getElem?_getD, List.getElem?_eq_getElem hi]
    rfl
  · obtain ⟨b1, b2⟩ := argBest_lt (fun i => ns.getD i 0) (vs.length - 1)
    obtain ⟨k, x, e1, e2⟩ := hP
    have hi : argBest (fun i j => decide (ns.getD i 0 < ns.getD j 0)) (vs.length - 1) < ns.length := by
      have := (List.getElem?_eq_some_iff.mp e1).1
      omega
    obtain ⟨t, rfl⟩ := kints_at hk rel (n := ns.getD (argBest (fun i j => decide (ns.getD i 0 < ns.getD j 0)) (vs.length - 1)) 0) e1 e2 (by rw [List.getD_eq_getElem?_getD, List.getElem?_eq_getElem hi]; rfl)
    refine ⟨.int _, H, I.kept (t' := tk) (fun b o e => hk' b o (fun hm => ?_) (Heap.get?_push_of_some _ e)), ⟨t, rfl⟩, q _ (getD_mem hi) fun a ha => ?_⟩
    · rcases List.mem_cons.mp hm with e1 | hm
      · exact absurd (e1 ▸ Heap.lt_size e) (Nat.lt_irrefl _)
      · cases hm
    · obtain ⟨j, hj, rfl⟩ := mem_getD ha
      exact b2 j (by omega)
def rSortD : List V → Hp → VK → Prop := fun xs H Q => ∃ a kvs ns, xs = [V.ref a] ∧ Rd H a (.dK kvs) ∧ KInts kvs ns ∧ ns.length < 64 ∧ ∀ p (ms : List Int), H p = none → ms.Perm ns → ms.Pairwise (· ≤ ·) → Q (.ref p) (upd H p (.lst (ms.map V.int)))
theorem sort_fin {pins : List (Addr × Obj)} {σ : St} {H : Hp} {s : Shared} {h1 : Heap} {tk : Nat} {us : List Value} {ns ms : List Int} {out : Array Value} (I : Inv X pins σ H s) (hk : ∀ b o, s.heap.get? b = some o → h1.get? b = some o) (hle : s.heap.objs.size ≤ h1.objs.size) (hl : ns.length < 64)
    (a1 : IntsAre out.toList ms) (a2 : ms.Perm ns) : Inv X pins σ (upd H h1.objs.size (.lst (ms.map V.int))) { s with heap := sortedHeap (h1.push (seqObj "list" us.toArray 0)) h1.objs.size us out, toks := tk } := by
  have hoL : (h1.push (seqObj "list" us.toArray 0)).get? h1.objs.size = some (seqObj "list" us.toArray 0) := Heap.get?_push_size _ rfl
  obtain ⟨e, he⟩ := sortedHeap_at (out := out) hoL
  have hml : ms.length = ns.length := a2.length_eq
  refine I.laid (t' := tk) (fun b o eb => ?_) hle ⟨by rw [List.length_map]; exact Nat.le_of_lt (small1000 (by omega)), out.toList, e, ints_vals a1, by simpa [seqObj] using he⟩
  have hb := Heap.lt_size (hk _ _ eb)
  rw [sortedHeap_old (Nat.ne_of_lt hb) (by rw [Heap.size_push]; exact Nat.lt_succ_of_lt hb)]
  exact Heap.get?_push_of_some _ (hk _ _ eb)
theorem call_sortedD (hc : X.calm = true) : CallR X (.builtin "sorted") rSortD := by
  intro pins s σ H xs us Q I r h
  obtain ⟨a, kvs, ns, rfl, ha, hk, h64, q⟩ := h
  obtain ⟨u, rfl, ru⟩ := vals1 r
  cases ru
  obtain ⟨z, lo, vs, rel, dd⟩ := dk_rd I.hok ha
  obtain ⟨ep, hm⟩ := dd.dictAt
  have hl1 := kints_len hk
  have hl2 : vs.length = kvs.length := rel.length.symm
  refine Calls.call_function_entry kind_sorted plain_sorted entry_sorted (args_sorted1 _) ?_
  unfold Builtin.«sorted»
  refine wpAny_bind (m := checkCount "sorted" 1 1 _) (wpAny_pure ?_)
  refine wpAny_bind (tw_collect_dict (knd := mixKind X.prog X.w) (I.ok.hd hc) lo hm (by rw [hl2]; exact z) fun h1 tk us hk1 hle1 hlen hus => ?_)
  have hI : IntsAre us ns := ints_by (by omega) fun j v n e1 e2 => by
    obtain ⟨k, x, e3, e4⟩ := hus j v e1
    exact kints_at hk rel e3 e4 e2
  refine wpAny_bind (wpAny_newList ?_)
  have hoL : (h1.push (seqObj "list" us.toArray 0)).get? h1.objs.size = some (seqObj "list" us.toArray 0) := Heap.get?_push_size _ rfl
  show wpAny _ _ _ _ _ { s with heap := h1.push (seqObj "list" us.toArray 0), toks := tk }
  refine wpAny_bind (wpAny_holding (wpAny_call_entry slot_list_sort ⟨_, hoL, rfl⟩ entry_list_sort (list_sort_tree hoL hI (by omega) fun out ns' a1 a2 a3 => ⟨_, rfl, ?_⟩) (args_list_sort _)))
  have J := sort_fin (tk := tk) (us := us) I hk1 hle1 h64 a1 a2
  exact wpAny_pure ⟨_, rfl, .ref h1.objs.size, _, J, rfl, q _ _ (I.hok.fresh hle1) a2 a3⟩
def rSortR : List V → Hp → VK → Prop := fun xs H Q => ∃ a kvs ns, xs = [V.ref a] ∧ Rd H a (.dK kvs) ∧ KInts kvs ns ∧ ns.length < 64 ∧ ∀ p (ms : List Int), H p = none → ms.Perm ns → Q (.ref p) (upd H p (.lst (ms.map V.int)))
def tSortR (t : TA) (tk : TE) : TE := fun σ H Q => t σ H fun xs H1 => tk σ H1 fun b H2 => b = .bl true ∧ rSortR xs H2 Q
theorem call_sortedR {pins : List (Addr × Obj)} {σ : St} {H : Hp} {s : Shared} {vs : List V} {us : List Value} {Q : VK} (hc : X.calm = true) (I : Inv X pins σ H s) (r : Vals vs us) (h : rSortR vs H Q) :
    wpAny (model X.prog X.w) X.A (call (.builtin "sorted") us [(Str.ofString "reverse", .bool true)]) (EP X pins σ Q) X.xe s := by
  obtain ⟨a, kvs, ns, rfl, ha, hk, h64, q⟩ := h
  obtain ⟨u, rfl, ru⟩ := vals1 r
  cases ru
  obtain ⟨z, lo, vs, rel, dd⟩ := dk_rd I.hok ha
  obtain ⟨ep, hm⟩ := dd.dictAt
  have hl1 := kints_len hk
  have hl2 : vs.length = kvs.length := rel.length.symm
  refine call_function_entry_kw kind_sorted plain_sorted entry_sorted (args_sorted_rev _ _) ?_
  unfold Builtin.«sorted»
  refine wpAny_bind (m := checkCount "sorted" 1 1 _) (wpAny_pure ?_)
  refine wpAny_bind (tw_collect_dict (knd := mixKind X.prog X.w) (I.ok.hd hc) lo hm (by rw [hl2]; exact z) fun h1 tk us hk1 hle1 hlen hus => ?_)
  have hI : IntsAre us ns := ints_by (by omega) fun j v n e1 e2 => by
    obtain ⟨k, x, e3, e4⟩ := hus j v e1
    exact kints_at hk rel e3 e4 e2
  refine wpAny_bind (wpAny_newList ?_)
  have hoL : (h1.push (seqObj "list" us.toArray 0)).get? h1.objs.size = some (seqObj "list" us.toArray 0) := Heap.get?_push_size _ rfl
  show wpAny _ _ _ _ _ { s with heap := h1.push (seqObj "list" us.toArray 0), toks := tk }
  refine wpAny_bind (wpAny_holding (wpAny_call_entry_kw slot_list_sort ⟨_, hoL, rfl⟩ entry_list_sort (list_sort_tree_rev hoL hI (by omega) fun out ns' a1 a2 a3 => ⟨_, rfl, ?_⟩) (args_list_sort_rev _ _)))
  have J := sort_fin (tk := tk) (us := us) I hk1 hle1 h64 a1 a2
  exact wpAny_pure ⟨_, rfl, .ref h1.objs.size, _, J, rfl, q _ _ (I.hok.fresh hle1) a2⟩
theorem pe_sortR {x : Str} {e kv : Expr} {p pos kp : Pos} {t : TA} {tk : TE} (hcm : X.calm = true) (hg : Gl X x) (hm : X.mg x = none) (hv : bootBuiltins x = some (.builtin "sorted")) (ha : PA X [e] t) (hk : PE X kv tk) (hn : x ≠ "__name__" := by decide) (hdb : (x == ("__debug__" : Str)) = false := by decide)
    (he : backTo pos (starEach [e] X.env) = (false, eval e X.env) :: backTo pos (starEach [] X.env) := by rfl) : PE X (.Call (.Name x p) [e] [⟨some (Str.ofString "reverse"), kv, kp⟩] pos) (tSortR t tk) := by
  intro pins s σ H Q I h
  refine wpAny_Call_Name_kw (ld_blt I hg hm hv ?_ hn hdb)
  refine callWith_kw (thn (ha pos pins s σ H _ I h) fun us s1 ⟨vs, H1, I1, r1, q1⟩ => kws_cons (thn (hk pins s1 σ H1 _ I1 q1) fun v s2 ⟨y, H2, I2, r2, e2, q2⟩ => kws_nil ?_)) he (by rw [he]; rfl)
  subst e2
  cases r2
  exact call_sortedR hcm I2 r1 q2
end
end L2

set_option Elab.async false
set_option linter.all false
set_option maxRecDepth 100000
namespace L2
open PySem PySem.Spec PyProof.Rows
theorem pairs_any {P P' : Program} {w w' : World} {es : List DictEntry} {kvs : List (Key × Value)} (h : Pairs (mixKind P w) es kvs) : Pairs (mixKind P' w') es kvs := by
  induction h with
  | nil => exact .nil
  | cons h1 h2 _ ih => exact .cons h1 h2 ih
theorem pairs_key {P : Program} {w : World} {es : List DictEntry} {kvs : List (Key × Value)} (h : Pairs (mixKind P w) es kvs) : ∀ e ∈ es, ∃ kv ∈ kvs, keyIs kv.1 e.key = true := by
  induction h with
  | nil => intro e he; cases he
  | @cons e0 kv es kvs h1 h2 _ ih =>
    intro e he
    rcases List.mem_cons.mp he with rfl | he
    · exact ⟨kv, List.mem_cons_self, h1⟩
    · obtain ⟨kv', m, q⟩ := ih e he
      exact ⟨kv', List.mem_cons_of_mem _ m, q⟩
theorem dict_at_any {P P' : Program} {w w' : World} {h : Heap} {a : Addr} {vs : List (Key × Value)} (hI : ∀ kv ∈ vs, ∃ i, kv.1 = .inl i) (d : h.DictOf (mixKind P w) a vs) : h.DictOf (mixKind P' w') a vs := by
  obtain ⟨o, es, ep, go, ex, hd, hk, hp, hn⟩ := d
  refine ⟨o, es, ep, go, ex, hd, fun e he => ?_, pairs_any hp, hn⟩
  obtain ⟨k, h1, h2⟩ := hk e he
  obtain ⟨kv, m, q⟩ := pairs_key hp e (Array.mem_toList_iff.mpr he)
  obtain ⟨i, ei⟩ := hI kv m
  rw [ei] at q
  have ek : k = .inl i := (mixKind P w).inj _ _ _ h1 q
  subst ek
  exact ⟨.inl i, h1, h2⟩
theorem kv_ints {kvs : List (Key × V)} {vs : List (Key × Value)} (r : KV kvs vs) (h : ∀ kv ∈ kvs, ∃ i, kv.1 = .inl i) : ∀ kv ∈ vs, ∃ i, kv.1 = .inl i := fun kv m => by
  have e : kv.1 ∈ kvs.map (·.1) := by
    rw [r.keys]
    exact List.mem_map.mpr ⟨kv, m, rfl⟩
  obtain ⟨kv', m', e'⟩ := List.mem_map.mp e
  rw [← e']
  exact h kv' m'
section
variable {X : Cx} {pins : List (Addr × Obj)} {σ : St} {H : Hp} {s : Shared} {a b : Addr} {kvs kvs2 : List (Key × V)} {f g : Key → PyData}
theorem rc_dicts {A : Around} (hu : A.units + 16 < cLine) (I : Inv X pins σ H s) (ha : Rd H a (.dK kvs)) (hb : Rd H b (.dK kvs2)) (hf : ∀ k x, (k, x) ∈ kvs → DV X.K H x (f k) ∧ Flat8 (f k))
    (hg : ∀ k x, (k, x) ∈ kvs2 → DV X.K H x (g k) ∧ Flat8 (g k)) (hs : sameD kvs kvs2 f g = true) (hi1 : ∀ kv ∈ kvs, ∃ i, kv.1 = .inl i) (hi2 : ∀ kv ∈ kvs2, ∃ i, kv.1 = .inl i) : SeqAt.RcAt A s (.ref a) (.ref b) true := by
  intro prog w E Q q
  obtain ⟨_, s1, vs, r1, d1⟩ := dk_rd I.hok ha
  obtain ⟨_, s2, vs2, r2, d2⟩ := dk_rd I.hok hb
  have d1 : s.heap.DictOf (mixKind prog w) a vs := dict_at_any (kv_ints r1 hi1) d1
  have d2 : s.heap.DictOf (mixKind prog w) b vs2 := dict_at_any (kv_ints r2 hi2) d2
  refine wpAny_richCompare_same_room d1.typeIs d2.typeIs PySem.F.slot_dict_eq (wpAny_call_entry PySem.F.slot_dict_eq d1.typeIs PySem.F.entry_dict_eq ?_ (PySem.F.args_dict_eq_2 _ _)) (by omega)
  show wpAny _ _ (Builtin.Dict.dictSlotArgs "__eq__" ⟨[.ref a, .ref b], []⟩ >>= _) _ _ s
  refine wpAny_bind ?_
  unfold Builtin.Dict.dictSlotArgs
  refine wpAny_bind (wpAny_notOrdered_dict d1.typeIs ?_)
  show wpAny _ _ (pure ((Value.ref a, Value.ref b) : Value × Value)) _ _ s
  refine wpAny_pure ?_
  refine wpAny_bind (wpAny_isInstance d2.typeIs PySem.F.sub_dict_dict ?_)
  rw [if_neg (by decide)]
  refine wpAny_bind (wpAny_pure (wpAny_bind (wpAny_pure ?_)))
  have sp : ∀ {A : Around} {E : Value → Shared → Prop} {nm : String} {Q : Bool → Shared → Prop}, A.units + 8 < cLine → Q true s → wpAny (model prog w) A (Builtin.Dict.samePairs nm a b) Q E s := fun {A E nm Q} hu h => by
    refine samePairs_ok s1 s2 d1 d2 (fun k => PyData.eqv (f k) (g k)) (fun k v v2 m e => ?_) ?_
    · obtain ⟨x, mx, rx⟩ := kv_mem r1 m
      have q := r2.val k
      rw [e] at q
      cases ev : valV kvs2 k with
      | none => rw [ev] at q; exact (show False from q).elim
      | some x2 =>
        rw [ev] at q
        have rx2 : RelV x2 v2 := q
        obtain ⟨dx, sx⟩ := hf k x mx
        obtain ⟨dx2, sx2⟩ := hg k x2 (valV_mem ev)
        obtain ⟨as, ra⟩ := dx.reads I rx
        obtain ⟨bs, rb⟩ := dx2.reads I rx2
        exact SeqAt.eqAt_reads _ _ _ _ _ _ _ _ ra rb sx.1 sx2.1 (by have h8 := sx.2; have hm := Nat.min_le_left (f k).depth (g k).depth; omega)
    · have e1 : vs.length = kvs.length := r1.length.symm
      have e2 : vs2.length = kvs2.length := r2.length.symm
      have e3 : (vs.all fun p => (valueAt vs2 p.1).isSome && PyData.eqv (f p.1) (g p.1)) = kvs.all fun p => (valV kvs2 p.1).isSome && PyData.eqv (f p.1) (g p.1) := by
        have hk : ∀ k, (valueAt vs2 k).isSome = (valV kvs2 k).isSome := fun k => ((r2.val k).isSome_eq).symm
        have a1 : (vs.all fun p => (valueAt vs2 p.1).isSome && PyData.eqv (f p.1) (g p.1)) = (vs.map (·.1)).all fun k => (valV kvs2 k).isSome && PyData.eqv (f k) (g k) := by
          rw [List.all_map]
          congr 1
          funext p
          simp only [Function.comp_apply, hk]
        have a2 : (kvs.all fun p => (valV kvs2 p.1).isSome && PyData.eqv (f p.1) (g p.1)) = (kvs.map (·.1)).all fun k => (valV kvs2 k).isSome && PyData.eqv (f k) (g k) := by
          rw [List.all_map]
          rfl
        rw [a1, a2, r1.keys]
      rw [e1, e2, e3]
      have hs' : (decide (kvs.length = kvs2.length) && kvs.all fun p => (valV kvs2 p.1).isSome && PyData.eqv (f p.1) (g p.1)) = true := hs
      rw [hs']
      exact h
  refine wpAny_bind (sp (by rw [units_in1]; omega) ?_)
  refine wpAny_pure ?_
  exact Exists.intro _ (And.intro rfl (And.intro (fun z => nomatch z) q))
def SameAt (K : PySem.W.Frag) (H : Hp) (a b : Addr) : Prop := ∃ kvs kvs2 f g, Rd H a (.dK kvs) ∧ Rd H b (.dK kvs2) ∧ (∀ k x, (k, x) ∈ kvs → DV K H x (f k) ∧ Flat8 (f k)) ∧ (∀ k x, (k, x) ∈ kvs2 → DV K H x (g k) ∧ Flat8 (g k)) ∧ sameD kvs kvs2 f g = true ∧ (∀ kv ∈ kvs, ∃ i, kv.1 = .inl i) ∧ ∀ kv ∈ kvs2, ∃ i, kv.1 = .inl i
def rEqTT (K : PySem.W.Frag) : R2 := fun x y H Q => ∃ t u a1 a2 b1 b2, x = .ref t ∧ y = .ref u ∧ SqT K H t [.ref a1, .ref a2] ∧ SqT K H u [.ref b1, .ref b2] ∧ a1 ≠ b1 ∧ a2 ≠ b2 ∧ SameAt K H a1 b1 ∧ SameAt K H a2 b2 ∧ Q (.bl true) H
theorem op_eqTT (hu : X.A.units + 64 < cLine) : OpR X (compareOp .Eq) (rEqTT X.K) := by
  intro pins s σ H x y v u Q I rx ry h
  obtain ⟨t, u, a1, a2, b1, b2, rfl, rfl, ht, hu2, n1, n2, ⟨k1, l1, f1, g1, x1, y1, p1, q1, r1, v1, w1⟩, ⟨k2, l2, f2, g2, x2, y2, p2, q2, r2, v2, w2⟩, q⟩ := h
  cases rx
  cases ry
  have eqs : ∀ {a b : Addr} {its : List Value}, Vals [V.ref a, .ref b] its → its = [Value.ref a, .ref b] := fun {a b its} r => by
    cases r with
    | cons h1 r =>
      cases r with
      | cons h2 r =>
        cases r
        cases h1
        cases h2
        rfl
  obtain ⟨its, ri, pl, _⟩ := I.tuple ht
  obtain ⟨its2, ri2, pl2, _⟩ := I.tuple hu2
  rw [eqs ri] at pl
  rw [eqs ri2] at pl2
  refine SeqAt.eq_tupleAt (e := fun _ => true) pl pl2 (by omega) (fun j h1 h2 => ?_) ⟨.bl true, H, I, rfl, q⟩
  match j, h1 with
  | 0, _ => exact SeqAt.EqAt.of_refs n1 (rc_dicts (by rw [units_in1]; omega) I x1 y1 p1 q1 r1 v1 w1)
  | 1, _ => exact SeqAt.EqAt.of_refs n2 (rc_dicts (by rw [units_in1]; omega) I x2 y2 p2 q2 r2 v2 w2)
end
end L2

set_option Elab.async false
set_option linter.all false
set_option maxRecDepth 100000
namespace Tw
open PySem L2
structure Wb (N : Nat) (ws : Wh) : Prop where
  nd : (ws.map (·.1)).Nodup
  sm : ∀ e ∈ ws, e.2.1.natAbs < N ∧ e.2.2.natAbs < N
structure Wz (N : Nat) (ws : Wh) : Prop extends Wb N ws where
  nz : ∀ e ∈ ws, e.2 ≠ (0, 0)
theorem wv_mem : ∀ {ws : Wh} {b : Nat}, b ∈ ws.map (·.1) → (b, wv ws b) ∈ ws
  | [], b, h => by cases h
  | (k, p) :: ws, b, h => by
    by_cases e : k = b
    · subst e
      unfold wv
      rw [wat_hd]
      exact List.mem_cons_self
    · have h' : b ∈ ws.map (·.1) := by
        rcases List.mem_cons.mp h with z | z
        · exact (e z.symm).elim
        · exact z
      have ih := wv_mem h'
      unfold wv at ih ⊢
      rw [wat_cons e]
      exact List.mem_cons_of_mem _ ih
theorem Wb.at {N : Nat} {ws : Wh} (h : Wb N ws) {b : Nat} (hb : b ∈ ws.map (·.1)) : (wv ws b).1.natAbs < N ∧ (wv ws b).2.natAbs < N := h.sm _ (wv_mem hb)
theorem Wz.ne {N : Nat} {ws : Wh} (h : Wz N ws) {b : Nat} (hb : b ∈ ws.map (·.1)) : wv ws b ≠ (0, 0) := h.nz _ (wv_mem hb)
theorem Wb.up {N M : Nat} {ws : Wh} (h : Wb N ws) (hn : N ≤ M) : Wb M ws := ⟨h.nd, fun e he => ⟨Nat.lt_of_lt_of_le (h.sm e he).1 hn, Nat.lt_of_lt_of_le (h.sm e he).2 hn⟩⟩
theorem Wz.up {N M : Nat} {ws : Wh} (h : Wz N ws) (hn : N ≤ M) : Wz M ws := ⟨h.toWb.up hn, h.nz⟩
theorem Wz.times {ws : Wh} {c : Int × Int} {N M : Nat} (h : Wz N ws) (hc : c.1.natAbs < M ∧ c.2.natAbs < M) (c0 : c ≠ (0, 0)) : Wz (2 * (N * M)) (wtm c ws) := by
  refine ⟨⟨by rw [wtm_keys]; exact h.nd, fun e he => ?_⟩, fun e he => ?_⟩
  · obtain ⟨f, hf, rfl⟩ := List.mem_map.mp he
    exact gm_abs (h.sm f hf) hc
  · obtain ⟨f, hf, rfl⟩ := List.mem_map.mp he
    exact gm_ne (h.nz f hf) c0
theorem Wb.put {N : Nat} {ws : Wh} (h : Wb N ws) {b : Nat} {p : Int × Int} (hp : p.1.natAbs < N ∧ p.2.natAbs < N) : Wb N (wput ws b p) := by
  refine ⟨?_, fun e he => ?_⟩
  · rw [wput_keys]
    split
    · exact h.nd
    · rename_i c
      rw [List.nodup_append]
      refine ⟨h.nd, by simp, fun x hx y hy z => ?_⟩
      have e1 : y = b := by simpa using hy
      obtain ⟨f, hf, rfl⟩ := List.mem_map.mp hx
      exact c (List.any_eq_true.mpr ⟨f, hf, decide_eq_true (z.trans e1)⟩)
  · unfold wput at he
    split at he
    · obtain ⟨f, hf, rfl⟩ := List.mem_map.mp he
      split
      · exact hp
      · exact h.sm f hf
    · rcases List.mem_append.mp he with z | z
      · exact h.sm e z
      · rw [List.mem_singleton.mp z]
        exact hp
theorem Wz.put {N : Nat} {ws : Wh} (h : Wz N ws) {b : Nat} {p : Int × Int} (hp : p.1.natAbs < N ∧ p.2.natAbs < N) (h0 : p ≠ (0, 0)) : Wz N (wput ws b p) := by
  refine ⟨h.toWb.put hp, fun e he => ?_⟩
  unfold wput at he
  split at he
  · obtain ⟨f, hf, rfl⟩ := List.mem_map.mp he
    split
    · exact h0
    · exact h.nz f hf
  · rcases List.mem_append.mp he with z | z
    · exact h.nz e z
    · rw [List.mem_singleton.mp z]
      exact h0
def wdrop (ws : Wh) (b : Nat) : Wh := ws.filter fun e => decide (e.1 ≠ b)
theorem Wb.drop {N : Nat} {ws : Wh} (h : Wb N ws) (b : Nat) : Wb N (wdrop ws b) :=
  ⟨List.Sublist.nodup (List.Sublist.map _ List.filter_sublist) h.nd, fun e he => h.sm e (List.mem_filter.mp he).1⟩
theorem wdrop_len (ws : Wh) (b : Nat) : (wdrop ws b).length ≤ ws.length := List.length_filter_le _ _
theorem WR.drop {K : PySem.W.Frag} {H : Hp} {ws : Wh} {kvs : List (Key × V)} (h : WR K H ws kvs) (b : Nat) : WR K H (wdrop ws b) (dropK kvs (.inl ((b : Nat) : Int))) := by
  induction h with
  | nil => exact .nil
  | @cons c p a ws kvs q r ih =>
    unfold wdrop dropK at ih ⊢
    rw [List.filter_cons, List.filter_cons]
    by_cases e : c = b
    · subst e
      rw [if_neg (by simp), if_neg (by simp)]
      exact ih
    · rw [if_pos (by simpa using e), if_pos (by simp only [ne_eq, decide_eq_true_eq]; exact fun z => e (key_eq.mp z))]
      exact .cons q ih
theorem Wz.snoc {N : Nat} {ws : Wh} (h : Wz N ws) {b : Nat} {p : Int × Int} (hb : b ∉ ws.map (·.1)) (hp : p.1.natAbs < N ∧ p.2.natAbs < N) (h0 : p ≠ (0, 0)) : Wz N (ws ++ [(b, p)]) := by
  have e : wput ws b p = ws ++ [(b, p)] := wput_new fun e he z => hb (z ▸ List.mem_map.mpr ⟨e, he, rfl⟩)
  rw [← e]
  exact h.put hp h0
theorem Wb.snoc {N : Nat} {ws : Wh} (h : Wb N ws) {b : Nat} {p : Int × Int} (hb : b ∉ ws.map (·.1)) (hp : p.1.natAbs < N ∧ p.2.natAbs < N) : Wb N (ws ++ [(b, p)]) := by
  have e : wput ws b p = ws ++ [(b, p)] := wput_new fun e he z => hb (z ▸ List.mem_map.mpr ⟨e, he, rfl⟩)
  rw [← e]
  exact h.put hp
def kz (ws : Wh) : List Int := ws.map fun e => ((e.1 : Nat) : Int)
theorem kz_len (ws : Wh) : (kz ws).length = ws.length := by unfold kz; rw [List.length_map]
theorem kz_mem {ws : Wh} {x : Int} : x ∈ kz ws ↔ ∃ b ∈ ws.map (·.1), x = ((b : Nat) : Int) := by
  unfold kz
  constructor
  · intro h
    obtain ⟨e, he, rfl⟩ := List.mem_map.mp h
    exact ⟨e.1, List.mem_map.mpr ⟨e, he, rfl⟩, rfl⟩
  · rintro ⟨b, hb, rfl⟩
    obtain ⟨e, he, rfl⟩ := List.mem_map.mp hb
    exact List.mem_map.mpr ⟨e, he, rfl⟩
theorem kz_in {ws : Wh} {b : Nat} : ((b : Nat) : Int) ∈ kz ws ↔ b ∈ ws.map (·.1) := by
  rw [kz_mem]
  constructor
  · rintro ⟨c, hc, e⟩
    have : b = c := by omega
    subst this
    exact hc
  · intro h
    exact ⟨b, h, rfl⟩
theorem nodup_cast : ∀ {l : List Nat}, l.Nodup → (l.map fun b : Nat => ((b : Nat) : Int)).Nodup
  | [], _ => by simp
  | b :: l, h => by
    rw [List.nodup_cons] at h
    rw [List.map_cons, List.nodup_cons]
    refine ⟨fun z => ?_, nodup_cast h.2⟩
    obtain ⟨c, hc, e⟩ := List.mem_map.mp z
    have : c = b := by omega
    subst this
    exact h.1 hc
theorem kz_nodup {ws : Wh} (h : (ws.map (·.1)).Nodup) : (kz ws).Nodup := by
  have e : kz ws = (ws.map (·.1)).map fun b : Nat => ((b : Nat) : Int) := by
    unfold kz
    rw [List.map_map]
    rfl
  rw [e]
  exact nodup_cast h
theorem keys_same {ws us : Wh} {ms1 ms2 : List Int} (n1 : (ws.map (·.1)).Nodup) (n2 : (us.map (·.1)).Nodup) (p1 : ms1.Perm (kz ws)) (p2 : ms2.Perm (kz us)) (s1 : ms1.Pairwise (· ≤ ·)) (s2 : ms2.Pairwise (· ≤ ·)) :
    ms1 = ms2 ↔ ∀ b, b ∈ ws.map (·.1) ↔ b ∈ us.map (·.1) := by
  constructor
  · intro e b
    subst e
    rw [← kz_in, ← kz_in, ← p1.mem_iff, ← p2.mem_iff]
  · intro h
    have p : (kz ws).Perm (kz us) := (List.perm_ext_iff_of_nodup (kz_nodup n1) (kz_nodup n2)).mpr fun a => by
      rw [kz_mem, kz_mem]
      constructor
      · rintro ⟨b, hb, e⟩
        exact ⟨b, (h b).mp hb, e⟩
      · rintro ⟨b, hb, e⟩
        exact ⟨b, (h b).mpr hb, e⟩
    exact List.Perm.eq_of_pairwise (fun a b _ _ h1 h2 => Int.le_antisymm h1 h2) s1 s2 ((p1.trans p).trans p2.symm)
section
variable {K : PySem.W.Frag} {H : Hp} {Q : VK} {ws us : Wh} {kvs : List (Key × V)} {a b : Addr}
theorem WR.here (h : WR K H ws kvs) {b : Nat} (hb : b ∈ ws.map (·.1)) : ∃ t, atZ kvs ((b : Nat) : Int) = some (.ref t) ∧ SqT K H t [.int (wv ws b).1, .int (wv ws b).2] := by
  rcases h.val b with ⟨_, e2⟩ | ⟨t, p, e1, e2, e3⟩
  · have := wat_mem hb
    rw [e2] at this
    cases this
  · refine ⟨t, e1, ?_⟩
    unfold wv
    rw [e3]
    exact e2
theorem WR.kints (h : WR K H ws kvs) : KInts kvs (kz ws) := by
  unfold KInts kz
  rw [h.keys, List.map_map, List.map_map]
  rfl
theorem WR.dget (h : WR K H ws kvs) (r : Rd H a (.dK kvs)) {b : Nat} (hb : b ∈ ws.map (·.1)) : ∃ t, DGet H a (.int ((b : Nat) : Int)) (some (.ref t)) ∧ SqT K H t [.int (wv ws b).1, .int (wv ws b).2] := by
  obtain ⟨t, e, s⟩ := h.here hb
  refine ⟨t, ?_, s⟩
  have := dget_z (i := ((b : Nat) : Int)) r
  rw [e] at this
  exact this
theorem at_key {ms : List Int} {j : Nat} (h : j < ms.length) (pm : ms.Perm (kz ws)) : ∃ b ∈ ws.map (·.1), atI (ms.map V.int) ((j : Nat) : Int) = some (.int ((b : Nat) : Int)) := by
  have hm : ms[j] ∈ kz ws := pm.mem_iff.mp (List.getElem_mem h)
  obtain ⟨b, hb, e⟩ := kz_mem.mp hm
  refine ⟨b, hb, atI_nat ?_⟩
  rw [List.getElem?_map, List.getElem?_eq_getElem h, e]
  rfl
theorem WR.inls (h : WR K H ws kvs) : ∀ kv ∈ kvs, ∃ i, kv.1 = (Sum.inl i : Key) := fun kv m => by
  have e : kv.1 ∈ kvs.map (·.1) := List.mem_map.mpr ⟨kv, m, rfl⟩
  rw [h.keys] at e
  obtain ⟨b, _, eb⟩ := List.mem_map.mp e
  exact ⟨_, eb.symm⟩
theorem whole_same (ha : WhAt K H a ws) (hb : WhAt K H b ws) (nd : (ws.map (·.1)).Nodup) : SameAt K H a b := by
  obtain ⟨k1, h1, w1⟩ := ha
  obtain ⟨k2, h2, w2⟩ := hb
  exact ⟨k1, k2, wd ws, wd ws, .inl h1, .inl h2, w1.dv nd, w2.dv nd, w1.same w2 rfl (fun _ => rfl) fun b hb => wat_mem hb, w1.inls, w2.inls⟩
theorem dec_pair (p q : Int × Int) : decide ([p.1, p.2] = [q.1, q.2]) = decide (p = q) := by
  by_cases h : p = q
  · subst h
    rw [decide_eq_true rfl, decide_eq_true rfl]
  · rw [decide_eq_false h, decide_eq_false]
    intro z
    injection z with z1 z2
    injection z2 with z2
    exact h (Prod.ext z1 z2)
end
end Tw
namespace L2
open PySem PySem.Spec PyProof.Rows
def sCompK (K : PySem.W.Frag) (tt : TT) (te : TE) (σ : St) (Q : VK) : V → Hp → Prop := fun x H => ∃ a, x = .ref a ∧ (∃ xs, SqL K H a xs) ∧ ∃ W : Nat → Nat → List V → Hp → Prop, (∃ m, W 0 m [] H) ∧ ∀ i m ys H, W i m ys H → ((Itl K a).stop i H ∧ ∀ p, H p = none → Q (.ref p) (upd H p (.lst ys))) ∨
      ((Itl K a).go i H ∧ ys.length < sizeLine ∧ ∃ N : List V → Hp → Prop, (∀ ys' H', N ys' H' → ∃ m', m' < m ∧ W (i + 1) m' ys' H') ∧
        ∀ x H', (Itl K a).yld i H x H' → tt (some x :: σ) H' fun b H2 => if b = true then te (some x :: σ) H2 fun y H3 => N (ys ++ [y]) H3 else N ys H2)
theorem st_cqE {K : PySem.W.Frag} {tl : TE} {tt : TT} {te : TE} {Q : VK} {σ : St} {H : Hp} (h : tl σ H (sCompK K tt te σ Q)) : tComp (iList K tl) tt te σ H Q := h
theorem st_cqAt {K : PySem.W.Frag} {a : Addr} {xs : List V} {tt : TT} {te : TE} {Q : VK} {σ : St} {H : Hp} (s : SqL K H a xs) (Pv : Nat → List V → Hp → Prop) (hn : xs.length ≤ 1000) (h0 : Pv 0 [] H) (hl : ∀ i ys H, Pv i ys H → ys.length ≤ i) (hk : ∀ i ys H, Pv i ys H → SqL K H a xs)
    (hs : ∀ i x ys H, xs[i]? = some x → Pv i ys H → tt (some x :: σ) H fun b H2 => if b = true then te (some x :: σ) H2 fun y H3 => Pv (i + 1) (ys ++ [y]) H3 else Pv (i + 1) ys H2)
    (hd : ∀ ys H, Pv xs.length ys H → ∀ p, H p = none → Q (.ref p) (upd H p (.lst ys))) : sCompK K tt te σ Q (.ref a) H := ⟨a, rfl, ⟨xs, s⟩, comp_lst Pv hn h0 hl hk hs hd⟩
theorem st_sortR {t : TA} {tk : TE} {σ : St} {H : Hp} {Q : VK} (h : t σ H fun xs H1 => tk σ H1 fun b H2 => b = .bl true ∧ rSortR xs H2 Q) : tSortR t tk σ H Q := h
theorem st_dpop1 {td ty : TE} {σ : St} {H : Hp} {Q : VK} (h : td σ H fun x H1 => ∃ a, x = .ref a ∧ IsD H1 a ∧ ty σ H1 fun y H2 => ∃ kvs k v, H2 a = some (.dK kvs) ∧ y = kV k ∧ valV kvs k = some v ∧ Q v (upd H2 a (.dK (dropK kvs k)))) : tDPop1 td ty σ H Q := h
theorem rNeD_intsL {K : PySem.W.Frag} {H : Hp} {Q : VK} {a b : Addr} {is js : List Int} (ha : SqL K H a (is.map V.int)) (hb : SqL K H b (js.map V.int)) (q : Q (.bl (!decide (is = js))) H) : rNeD K (.ref a) (.ref b) H Q :=
  ⟨_, _, .lst ha (dvs_ints is), .lst hb (dvs_ints js), PySem.W.ke_shaped_ints is, PySem.W.ke_shaped_ints js, by rw [PyData.eqv, eqv_ints]; exact q⟩
end L2

set_option Elab.async false
set_option linter.all false
set_option maxRecDepth 100000
set_option maxHeartbeats 4000000
namespace L2
open PySem
theorem boot_all : bootBuiltins "all" = some (.builtin "all") := by decide +kernel
end L2
namespace Tw
open PySem L2
local macro_rules | `(tactic| fail "la") => `(tactic| first | (with_reducible assumption) | exact upd_same | (with_reducible refine' upd_get ?s1 ?s2; (case s1 => with_reducible assumption); (case s2 => fail "la")))
local macro_rules | `(tactic| fail "sq") => `(tactic| first | (with_reducible assumption) | (with_reducible apply SqT.of upd_same) | (with_reducible apply SqL.of upd_same) | (with_reducible apply SqT.of; with_reducible assumption) | (with_reducible apply SqL.of; with_reducible assumption) | (with_reducible apply SqT.upd <;> first | (with_reducible assumption) | fail "sq") | (with_reducible apply SqL.upd <;> first | (with_reducible assumption) | fail "sq") | (with_reducible refine' Same.tup ?s1 ?s2; (case s1 => with_reducible assumption); (case s2 => fail "sq")) | (with_reducible refine' Same.seq ?s1 ?s2; (case s1 => with_reducible assumption); (case s2 => fail "sq")))
local macro_rules | `(tactic| fail "st") => `(tactic| dsimp only [cxOf_K])
local macro_rules | `(tactic| fail "sd") => `(tactic| first | omega | exact pow_pos2 _ | exact pow_le100 (by omega) | exact cdivw_pow (by omega) | exact cpow_n (by omega) | exact ⟨by decide, by decide⟩ | exact .inl ⟨by decide, by decide⟩ | decide)
local macro_rules | `(tactic| fail "tv") => `(tactic| ((with_reducible refine' st_var ?e1 ?h1); (case e1 => exact rfl)))
local macro_rules | `(tactic| fail "tx") => `(tactic| ((with_reducible refine' st_ixT ?s1 ?e1 ?h1); (case s1 => fail "sq"); (case e1 => exact rfl)))
local macro_rules | `(tactic| fail "tl") => `(tactic| ((with_reducible refine' st_ixL ?s1 ?e1 ?h1); (case s1 => fail "sq"); (case e1 => first | assumption | exact rfl)))
local macro_rules | `(tactic| fail "tg") => `(tactic| ((with_reducible refine' st_gtup ?s1 ?e1 ?h1); (case s1 => fail "sq"); (case e1 => exact rfl)))
local macro_rules | `(tactic| fail "ti") => `(tactic| ((with_reducible refine st_i ?c1 ?h1); (case c1 => fail "sd")))
local macro_rules | `(tactic| fail "ts") => `(tactic| ((with_reducible refine st_shl1 ?c1 ?h1); (case c1 => fail "sd")))
local macro_rules | `(tactic| fail "tm") => `(tactic| ((with_reducible refine st_modN ?c1 ?h1); (case c1 => fail "sd"); intro _ _ _))
local macro_rules | `(tactic| fail "td") => `(tactic| ((with_reducible refine st_divN ?c1 ?c2 ?h1); (case c1 => fail "sd"); (case c2 => fail "sd")))
local macro_rules | `(tactic| fail "tz") => `(tactic| ((with_reducible refine st_size ?c1 ?h1); (case c1 => exact rfl)))
local macro_rules | `(tactic| fail "sl") => `(tactic| ((with_reducible refine' st_slL ?s1 ?h1); (case s1 => fail "sq")))
local macro_rules | `(tactic| fail "n2") => `(tactic| ((with_reducible first | refine' rNeD_2 ?s1 ?s2 ?h1 | refine' rEqD_2 ?s1 ?s2 ?h1 | refine' rNeD_3 ?s1 ?s2 ?h1 | refine' rEqD_3 ?s1 ?s2 ?h1); (case s1 => fail "sq"); (case s2 => fail "sq")))
local macro_rules | `(tactic| fail "sm") => `(tactic| first | (with_reducible assumption) | exact Same.refl _ | (with_reducible refine' Same.updR ?s1 ?s2; (case s2 => with_reducible assumption); (case s1 => fail "sm")) | (with_reducible refine' Same.trans ?s1 ?s2; (case s2 => with_reducible assumption); (case s1 => fail "sm")))
local macro_rules | `(tactic| fail "is") => `(tactic| ((with_reducible refine' st_isi ?s1 ?s2 ?h1); (case s1 => first | exact TyOf.bl _ | exact TyOf.int _ | exact TyOf.str _ | exact TyOf.non | exact TyOf.tup upd_same | exact TyOf.lst upd_same | (with_reducible refine' TyOf.tup ?e9; (case e9 => fail "la")) | (with_reducible refine' TyOf.lst ?e9; (case e9 => fail "la")) | exact TyOf.dK upd_same); (case s2 => first | exact kit_NoneType_int | exact kit_NoneType_bool | exact kit_NoneType_str | exact kit_NoneType_tuple | exact kit_NoneType_list | exact kit_NoneType_dict | exact kit_bool_int | exact kit_bool_bool | exact kit_bool_str | exact kit_bool_tuple | exact kit_bool_list | exact kit_bool_dict | exact kit_int_int | exact kit_int_bool | exact kit_int_str | exact kit_int_tuple | exact kit_int_list | exact kit_int_dict | exact kit_str_int | exact kit_str_bool | exact kit_str_str | exact kit_str_tuple | exact kit_str_list | exact kit_str_dict | exact kit_list_int | exact kit_list_bool | exact kit_list_str | exact kit_list_tuple | exact kit_list_list | exact kit_list_dict | exact kit_tuple_int | exact kit_tuple_bool | exact kit_tuple_str | exact kit_tuple_tuple | exact kit_tuple_list | exact kit_tuple_dict | exact kit_dict_int | exact kit_dict_bool | exact kit_dict_str | exact kit_dict_tuple | exact kit_dict_list | exact kit_dict_dict)))
local macro_rules | `(tactic| fail "h0") => `(tactic| first | with_reducible refine st_andS ?_ | with_reducible refine st_andB ?_ | with_reducible refine st_and1 ?_ | with_reducible refine st_chain ?_ | with_reducible refine st_dnew ?_ | with_reducible refine st_yes ?_ | ((with_reducible refine' st_lstT ?s1 ?h1); (case s1 => fail "sq")) | with_reducible refine st_raise ?_ | with_reducible refine st_try ?_ | ((with_reducible refine st_shlB ?c1 ?h1); (case c1 => omega)) | ((with_reducible refine' st_in01 ?s1 ?c1 ?h1); (case s1 => fail "sq"); (case c1 => omega)))
local macro_rules | `(tactic| fail "h1") => `(tactic| with_reducible first | refine st_seq ?_ | refine st_asg ?_ | refine st_gname ?_ | refine st_op ?_ | refine st_c ?_ | refine st_if ?_ | refine st_ret ?_ | refine st_test ?_ | refine st_bl ?_ | refine st_cons ?_ | refine st_nil ?_ | refine st_call ?_ | refine st_tup ?_ | refine st_and ?_ | refine st_or ?_ | refine st_not ?_ | refine st_andN ?_ | refine st_orN ?_ | refine st_xorN ?_ | refine st_bit ?_ | refine st_i0 ?_ | refine st_shrN ?_ | refine st_eqi ?_ | refine st_nei ?_ | refine st_eqb ?_ | refine st_neb ?_ | refine st_eqs ?_ | refine st_nes ?_ | refine st_cb ?_ | refine st_lst ?_ | refine st_next ?_ | refine st_retN ?_ | refine st_drop ?_ | refine st_gcons ?_ | refine st_gnil ?_ | refine st_un ?_ | refine st_u ?_ | refine st_tB ?_ | refine st_andV ?_ | refine st_orV ?_ | refine st_notV ?_ | refine st_ifE ?_ | refine st_part ?_ | refine st_int ?_ | refine st_nopart ?_ | refine st_sl ?_)
local macro_rules | `(tactic| fail "h2") => `(tactic| first | with_reducible refine st_bm0 ?_ | with_reducible refine st_bm ?_ | with_reducible refine st_tyI ?_ | with_reducible refine st_tyS ?_ | with_reducible refine st_bitlen ?_ | ((with_reducible refine' st_tyL ?s1 ?h1); (case s1 => fail "sq")) | ((with_reducible refine' st_lenL ?s1 ?h1); (case s1 => fail "sq")) | ((with_reducible refine' st_lenT ?s1 ?h1); (case s1 => fail "sq")) | ((with_reducible refine' st_cat ?s1 ?s2 ?s3 ?h1); (case s1 => fail "la"); (case s2 => fail "la"); (case s3 => first | omega | (simp only [List.length_append, List.length_map, List.length_cons, List.length_nil]; omega))) | ((with_reducible refine' st_append ?s1 ?s2 ?h1); (case s1 => fail "la"); (case s2 => first | omega | (simp only [List.length_append, List.length_map, List.length_cons, List.length_nil]; omega))))
local macro_rules | `(tactic| fail "go") => `(tactic| repeat (first | fail "tv" | fail "h0" | fail "h1" | fail "tx" | fail "tl" | fail "ts" | fail "tm" | fail "td" | fail "ti" | fail "tz" | fail "tg" | fail "sl" | fail "n2" | fail "is" | fail "h2" | with_reducible refine iteT ?_ | with_reducible refine iteF ?_ | with_reducible refine iteNT ?_ | with_reducible refine iteNF ?_ | with_reducible refine (fun (p : Addr) (hp : _ = none) => ?_ : ∀ p : Addr, _ = none → _) | dsimp only [Bool.not_true, Bool.not_false]))
local macro_rules | `(tactic| fail "h2") => `(tactic| with_reducible first | refine st_fld ?_ | refine st_put ?_ | refine st_make ?_ | refine st_md ?_ | refine st_intB ?_)
local macro_rules | `(tactic| fail "tx") => `(tactic| ((with_reducible refine' st_ixT ?s1 ?e1 ?h1); (case s1 => fail "sq"); (case e1 => first | exact at0 _ _ | exact at1 _ _ _)))
local macro_rules | `(tactic| fail "h0") => `(tactic| with_reducible first | refine st_xorBB ?_ | refine st_xorNB ?_ | refine st_sub1B ?_)
local macro_rules | `(tactic| fail "h0") => `(tactic| with_reducible first | refine st_dget2 ?_ | refine st_dput ?_)
local macro_rules | `(tactic| fail "kw1") => `(tactic| first | ((with_reducible refine' ite_t ?e9 ?h9); (case e9 => decide +kernel)) | ((with_reducible refine' ite_f ?e9 ?h9); (case e9 => decide +kernel)))
local macro_rules | `(tactic| fail "kw") => `(tactic| (fail "go"; repeat (fail "kw1"; fail "go")))
theorem hu_mark {A : Around} {k : Nat} {v : Option Value} (hr : Room k A) : (A.mark v).units + 64 < cLine := hr.units
theorem hu_of64 {A : Around} {k : Nat} (hr : Room k A) : A.units + 64 < cLine := hr.units
local macro_rules | `(tactic| fail "h0") => `(tactic| with_reducible refine st_par ?_)
local macro_rules | `(tactic| fail "h0") => `(tactic| with_reducible first | refine st_dget ?_ | refine st_sortR ?_ | refine st_dpop1 ?_)
def top (i : Nat) : Stmt := PySem.Challenge.pw_twinwires_k23_the_same_but_for_a_factor.main.body.getD i (.Pass ⟨0, 0, 0, 0⟩)
abbrev s__law_mixed : Stmt := top 6
theorem sc__law_mixed : FnScope ["_law_draw", "_law_k", "_law_number_here"] ["_law_draw", "_law_k"] (defScope s__law_mixed) := ⟨rfl, rfl, rfl, by decide +kernel, rfl, by decide +kernel, by decide +kernel⟩
abbrev s__law_number : Stmt := top 8
theorem sc__law_number : FnScope ["_law_draw", "_law_k", "_law_number_here"] ["_law_draw", "_law_k"] (defScope s__law_number) := ⟨rfl, rfl, rfl, by decide +kernel, rfl, by decide +kernel, by decide +kernel⟩
abbrev s__law_bits : Stmt := top 7
theorem sc__law_bits : FnScope ["_law_draw", "_law_k", "_law_n"] ["_law_draw", "_law_k", "_law_n"] (defScope s__law_bits) := ⟨rfl, rfl, rfl, by decide +kernel, rfl, by decide +kernel, by decide +kernel⟩
abbrev s__law_whole : Stmt := top 9
theorem sc__law_whole : FnScope ["_law_cells", "_law_found", "_law_draw", "_law_number_here"] ["_law_cells"] (defScope s__law_whole) := ⟨rfl, rfl, rfl, by decide +kernel, rfl, by decide +kernel, by decide +kernel⟩
abbrev s__law_multiplied : Stmt := top 10
theorem sc__law_multiplied : FnScope ["_law_one", "_law_other"] ["_law_one", "_law_other"] (defScope s__law_multiplied) := ⟨rfl, rfl, rfl, by decide +kernel, rfl, by decide +kernel, by decide +kernel⟩
abbrev s__law_times : Stmt := top 11
theorem sc__law_times : FnScope ["_law_whole_here", "_law_factor_here"] ["_law_whole_here", "_law_factor_here"] (defScope s__law_times) := ⟨rfl, rfl, rfl, by decide +kernel, rfl, by decide +kernel, by decide +kernel⟩
abbrev s__law_changed : Stmt := top 13
theorem sc__law_changed : FnScope ["_law_whole_here", "_law_draw", "_law_found", "_law_keys", "_law_here", "_law_there", "_law_way", "_law_number_here"] ["_law_whole_here", "_law_draw"] (defScope s__law_changed) := ⟨rfl, rfl, rfl, by decide +kernel, rfl, by decide +kernel, by decide +kernel⟩
abbrev s_multiplied : Stmt := top 1
theorem sc_multiplied : FnScope ["one", "other"] ["one", "other"] (defScope s_multiplied) := ⟨rfl, rfl, rfl, by decide +kernel, rfl, by decide +kernel, by decide +kernel⟩
abbrev s_same_whole : Stmt := top 3
theorem sc_same_whole : FnScope ["one", "other", "first"] ["one", "other"] (defScope s_same_whole) := ⟨rfl, rfl, rfl, by decide +kernel, rfl, by decide +kernel, by decide +kernel⟩
abbrev s__law_alike : Stmt := top 15
theorem sc__law_alike : FnScope ["_law_one", "_law_other", "_law_due_here", "_law_handed", "_law_found"] ["_law_one", "_law_other", "_law_due_here"] (defScope s__law_alike) := ⟨rfl, rfl, rfl, by decide +kernel, rfl, by decide +kernel, by decide +kernel⟩
abbrev s__law_factor : Stmt := top 12
theorem sc__law_factor : FnScope ["_law_draw", "_law_factor_here"] ["_law_draw"] (defScope s__law_factor) := ⟨rfl, rfl, rfl, by decide +kernel, rfl, by decide +kernel, by decide +kernel⟩
abbrev s__law_cell_at : Stmt := top 5
theorem sc__law_cell_at : FnScope ["_law_script", "_law_k"] ["_law_script", "_law_k"] (defScope s__law_cell_at) := ⟨rfl, rfl, rfl, by decide +kernel, rfl, by decide +kernel, by decide +kernel⟩
abbrev s__law_due : Stmt := top 14
theorem sc__law_due : FnScope ["_law_one", "_law_other", "_law_here", "_law_there"] ["_law_one", "_law_other"] (defScope s__law_due) := ⟨rfl, rfl, rfl, by decide +kernel, rfl, by decide +kernel, by decide +kernel⟩
abbrev s_law : Stmt := top 16
theorem sc_law : FnScope ["_law_script", "_law_whole_here", "_law_one", "_law_other", "_law_changed_here"] ["_law_script"] (defScope s_law) := ⟨rfl, rfl, rfl, by decide +kernel, rfl, by decide +kernel, by decide +kernel⟩
def sp__law_cell_at (K : PySem.W.Frag) : Sp := fun vs H Q _ => ∃ (a : Addr) (k : Nat) (ns : List Int), vs = [.ref a, .int k] ∧ SqL K H a (ns.map V.int) ∧ ∀ c : Int, Q (.int c) H
def sp__law_mixed (K : PySem.W.Frag) : Sp := fun vs H Q _ => ∃ (c : Int) (k : Nat), vs = [.int c, .int k] ∧ k ≤ 100 ∧ ∀ m : Nat, m < 2147483629 → Q (.int m) H
def sp__law_number (K : PySem.W.Frag) : Sp := fun vs H Q _ => ∃ (c : Int) (k : Nat), vs = [.int c, .int k] ∧ k ≤ 100 ∧ ∀ (v : Int) H', Same H H' → v.natAbs < 2 ^ 100 → Q (.int v) H'
def sp_multiplied (K : PySem.W.Frag) : Sp := fun vs H Q _ => ∃ (a b : Addr) (p q : Int × Int), vs = [.ref a, .ref b] ∧ SqT K H a [.int p.1, .int p.2] ∧ SqT K H b [.int q.1, .int q.2] ∧ (p.1.natAbs < 2 ^ 210 ∧ p.2.natAbs < 2 ^ 210) ∧ (q.1.natAbs < 2 ^ 210 ∧ q.2.natAbs < 2 ^ 210) ∧ ∀ t, H t = none → Q (.ref t) (upd H t (.tup [.int (gm p q).1, .int (gm p q).2]))
def sp__law_multiplied (K : PySem.W.Frag) : Sp := sp_multiplied K
def sp_same_whole (K : PySem.W.Frag) : Sp := fun vs H Q _ => ∃ (a b : Addr) (ws us : Wh), vs = [.ref a, .ref b] ∧ a ≠ b ∧ WhAt K H a ws ∧ WhAt K H b us ∧ Wz (2 ^ 210) ws ∧ Wz (2 ^ 210) us ∧ 0 < ws.length ∧ ws.length < 60 ∧ us.length < 60 ∧ ∀ (v : Bool) H', Same H H' → (v = true ↔ Due ws us) → Q (.bl v) H'
def sp__law_due (K : PySem.W.Frag) : Sp := fun vs H Q _ => ∃ (a b : Addr) (ws us : Wh), vs = [.ref a, .ref b] ∧ a ≠ b ∧ WhAt K H a ws ∧ WhAt K H b us ∧ Wz (2 ^ 210) ws ∧ Wz (2 ^ 210) us ∧ ws.length < 60 ∧ us.length < 60 ∧ ∀ (v : Bool) H', Same H H' → (v = true ↔ Due ws us) → Q (.bl v) H'
def sp__law_bits (K : PySem.W.Frag) : Sp := fun vs H Q _ => ∃ (c : Int) (k n : Nat), vs = [.int c, .int k, .int n] ∧ k ≤ 90 ∧ n ≤ 40 ∧ ∀ m : Nat, m < 2 ^ n → Q (.int m) H
def sp__law_whole (K : PySem.W.Frag) : Sp := fun vs H Q _ => ∃ (a : Addr) (ns : List Int), vs = [.ref a] ∧ SqL K H a (ns.map V.int) ∧ ns.length ≤ 20 ∧ ∀ p H' ws, Same H H' → WhAt K H' p ws → Wz (2 ^ 100) ws → 0 < ws.length → ws.length ≤ 21 → Q (.ref p) H'
def sp__law_times (K : PySem.W.Frag) : Sp := fun vs H Q _ => ∃ (a f : Addr) (ws : Wh) (c : Int × Int), vs = [.ref a, .ref f] ∧ WhAt K H a ws ∧ Wz (2 ^ 100) ws ∧ ws.length ≤ 100 ∧ SqT K H f [.int c.1, .int c.2] ∧ (c.1.natAbs < 2 ^ 100 ∧ c.2.natAbs < 2 ^ 100) ∧ ∀ p H', Same H H' → H p = none → WhAt K H' p (wtm c ws) → Q (.ref p) H'
def sp__law_factor (K : PySem.W.Frag) : Sp := fun vs H Q _ => ∃ d : Int, vs = [.int d] ∧ ∀ t H' (c : Int × Int), Same H H' → SqT K H' t [.int c.1, .int c.2] → (c.1.natAbs < 2 ^ 100 ∧ c.2.natAbs < 2 ^ 100) → c ≠ (0, 0) → Q (.ref t) H'
def sp__law_changed (K : PySem.W.Frag) : Sp := fun vs H Q _ => ∃ (a : Addr) (d : Int) (ws : Wh), vs = [.ref a, .int d] ∧ WhAt K H a ws ∧ Wz (2 ^ 202) ws ∧ 0 < ws.length ∧ ws.length ≤ 30 ∧ ∀ p H' us, Same H H' → H p = none → WhAt K H' p us → Wz (2 ^ 203) us → us.length ≤ 40 → Q (.ref p) H'
def sp__law_alike (K : PySem.W.Frag) : Sp := fun vs H Q _ => ∃ (a b : Addr) (d : Bool) (ws us : Wh), vs = [.ref a, .ref b, .bl d] ∧ WhAt K H a ws ∧ WhAt K H b us ∧ Wz (2 ^ 210) ws ∧ Wz (2 ^ 210) us ∧ 0 < ws.length ∧ 0 < us.length ∧ ws.length < 60 ∧ us.length < 60 ∧ (d = true ↔ Due ws us) ∧ ∀ H', Same H H' → Q (.bl true) H'
def sp_law (K : PySem.W.Frag) : Sp := fun vs H Q _ => ∃ (a : Addr) (ns : List Int), vs = [.ref a] ∧ SqL K H a (ns.map V.int) ∧ ns.length ≤ 63 ∧ ∀ H', Q (.bl true) H'
theorem cm210 {i j : Int} (h : i.natAbs < 2 ^ 210) (h2 : j.natAbs < 2 ^ 210) : CMulV i j := ⟨Nat.lt_trans h (by decide), Nat.lt_trans h2 (by decide)⟩
section
variable {P : Program} {w : World} {K : PySem.W.Frag} {mg : Str → Option Value} {base : Heap}
theorem ok__law_cell_at {f : Addr} {fd : FuncData} (F : Fun K "_law_cell_at" "_law_cell_at" s__law_cell_at f fd) (b_len : mg "len" = none) : FnOk P w K mg base CX0 1 f fd ["_law_script", "_law_k"] (sp__law_cell_at K) := by
  refine F.ok sc__law_cell_at (fun vs H Q E h => ?_) (fun cdv A outer s H vs Q E hr h => ?_)
  · obtain ⟨_, _, _, rfl, _⟩ := h
    rfl
  obtain ⟨a, k, ns, rfl, ha, q⟩ := h
  refine ⟨_, (pss_cons (ps_if (pt_cmpR (op_lt) (pv 1) (pe_callB (call_lenQ) rfl b_len PySem.boot_len (pa_cons (pv 0) pa_nil)) (nomark _)) (pss_one (ps_ret (pe_ix (ix_list) (pv 0) (pv 1) (fun _ _ => rfl)))) pss_nil)
      (pss_one (ps_ret pe_int))), ?_⟩
  fail "st"
  fail "go"
  refine iteD (fun c => ?_) (fun c => ?_)
  · rw [List.length_map] at c
    obtain ⟨x, ex⟩ := at_i (cs := ns) (i := k) (by omega)
    fail "go"
    exact q x
  · fail "go"
    exact q 0
theorem ok__law_mixed {f : Addr} {fd : FuncData} (F : Fun K "_law_mixed" "_law_mixed" s__law_mixed f fd)  : FnOk P w K mg base CX0 1 f fd ["_law_draw", "_law_k"] (sp__law_mixed K) := by
  refine F.ok sc__law_mixed (fun vs H Q E h => ?_) (fun cdv A outer s H vs Q E hr h => ?_)
  · obtain ⟨_, _, rfl, _⟩ := h
    rfl
  obtain ⟨c, k, rfl, hk, q⟩ := h
  refine ⟨_, (pss_cons (ps_set (i := 2) sc__law_mixed.nd rfl (Or.inl rfl) (pe_op (op_mod) (pe_op (op_mulV) (pe_op (op_add) (pe_op (op_add) (pe_op (op_mod) (pv 0) pe_int) (pe_op (op_mulV) pe_int (pv 1))) pe_int) pe_int) pe_int))
      (pss_one (ps_ret (pe_op (op_mod) (pe_op (op_mulV) (pv 2) (pe_op (op_add) (pe_op (op_fdivW) (pv 2) pe_int) pe_int)) pe_int)))), ?_⟩
  fail "go"
  refine st_i ⟨by omega, by omega⟩ ?_
  fail "go"
  refine st_i ⟨by omega, by omega⟩ ?_
  fail "go"
  refine st_i ⟨by omega, by omega⟩ ?_
  fail "go"
  have key : ∀ x : Int, Q (.int (x % 2147483629)) H := fun x => by
    obtain ⟨m, e, hm⟩ := emod_nat x (n := 2147483629) (by decide)
    have e2 : x % 2147483629 = (m : Int) := e
    rw [e2]
    exact q m hm
  first
  | exact key _
  | (rename_i m em hm; exact q m hm)
theorem ok__law_number {f : Addr} {fd : FuncData} (F : Fun K "_law_number" "_law_number" s__law_number f fd) (c__law_mixed : Cal P w K mg base CX0 1 "_law_mixed" ["_law_draw", "_law_k"] (sp__law_mixed K)) : FnOk P w K mg base CX0 2 f fd ["_law_draw", "_law_k"] (sp__law_number K) := by
  refine F.ok sc__law_number (fun vs H Q E h => ?_) (fun cdv A outer s H vs Q E hr h => ?_)
  · obtain ⟨_, _, rfl, _⟩ := h
    rfl
  obtain ⟨c, k, rfl, hk, q⟩ := h
  refine ⟨_, (pss_cons (ps_set (i := 2) sc__law_number.nd rfl (Or.inl rfl) (pe_fn c__law_mixed hr pass0 (pa_cons (pv 0) (pa_cons (pv 1) pa_nil))))
      (pss_cons (ps_if (pt_cmpR (op_eq) (pe_op (op_mod) (pv 2) pe_int) pe_int (nomark _)) (pss_one (ps_ret (pe_op (op_sub) (pe_op (op_mod) (pe_op (op_fdivW) (pv 2) pe_int) pe_int) pe_int))) pss_nil)
      (pss_one (ps_ret (pe_ix (ix_list) (pe_lst (pa_cons (pe_op (op_sub) (pe_op (op_mod) (pe_op (op_fdivW) (pv 2) pe_int) pe_int) pe_int) (pa_cons (pe_op (op_sub) (pe_op (op_mod) (pe_op (op_fdivW) (pv 0) pe_int) (pe_op (op_mulV) pe_int (pe_op (op_pow) pe_int pe_int))) (pe_op (op_pow) pe_int pe_int)) pa_nil))) (pe_op (op_mod) (pe_op (op_fdivW) (pv 2) pe_int) pe_int) (fun _ _ => rfl)))))), ?_⟩
  fail "st"
  fail "go"
  refine ⟨c, k, rfl, by omega, fun m1 h1 => ?_⟩
  fail "go"
  refine iteD (fun _ => ?_) (fun _ => ?_)
  · fail "go"
    exact q _ H (Same.refl _) (by omega)
  · fail "go"
    rename_i p hp
    have e20 : (10 : Int) ^ Int.toNat 20 = 100000000000000000000 := by decide
    have e21 : (2 : Int) * 100000000000000000000 = 200000000000000000000 := by decide
    obtain ⟨v, hv, ev⟩ := at2m (a := V.int (((m1 : Nat) : Int) / 3 % 3 - 1)) (b := V.int (c / 3 % (2 * 10 ^ Int.toNat 20) - 10 ^ Int.toNat 20)) (((m1 : Nat) : Int) / 9)
    refine st_ixL (SqL.of upd_same) ev ?_
    rcases hv with rfl | rfl
    · exact q _ _ (same_new hp _) (by omega)
    · refine q _ _ (same_new hp _) ?_
      rw [e20, e21]
      omega
theorem ok_multiplied {f : Addr} {fd : FuncData} (F : Fun K "multiplied" "multiplied" s_multiplied f fd)  : FnOk P w K mg base CX0 1 f fd ["one", "other"] (sp_multiplied K) := by
  refine F.ok sc_multiplied (fun vs H Q E h => ?_) (fun cdv A outer s H vs Q E hr h => ?_)
  · obtain ⟨_, _, _, _, rfl, _⟩ := h
    rfl
  obtain ⟨a, b, p, r, rfl, ha, hb, ⟨p1, p2⟩, ⟨r1, r2⟩, q⟩ := h
  refine ⟨_, (pss_one (ps_ret (pe_tup (pa_cons (pe_op (op_sub) (pe_op (op_mulV) (pe_ix (ix_tup) (pv 0) pe_int (fun _ _ => rfl)) (pe_ix (ix_tup) (pv 1) pe_int (fun _ _ => rfl))) (pe_op (op_mulV) (pe_ix (ix_tup) (pv 0) pe_int (fun _ _ => rfl)) (pe_ix (ix_tup) (pv 1) pe_int (fun _ _ => rfl)))) (pa_cons (pe_op (op_add) (pe_op (op_mulV) (pe_ix (ix_tup) (pv 0) pe_int (fun _ _ => rfl)) (pe_ix (ix_tup) (pv 1) pe_int (fun _ _ => rfl))) (pe_op (op_mulV) (pe_ix (ix_tup) (pv 0) pe_int (fun _ _ => rfl)) (pe_ix (ix_tup) (pv 1) pe_int (fun _ _ => rfl)))) pa_nil))))), ?_⟩
  fail "st"
  fail "go"
  refine st_i (cm210 p1 r1) ?_
  fail "go"
  refine st_i (cm210 p2 r2) ?_
  fail "go"
  refine st_i (cm210 p1 r2) ?_
  fail "go"
  refine st_i (cm210 p2 r1) ?_
  fail "go"
  rename_i t kt
  exact q t kt
theorem ok__law_multiplied {f : Addr} {fd : FuncData} (F : Fun K "_law_multiplied" "_law_multiplied" s__law_multiplied f fd)  : FnOk P w K mg base CX0 1 f fd ["_law_one", "_law_other"] (sp__law_multiplied K) := by
  refine F.ok sc__law_multiplied (fun vs H Q E h => ?_) (fun cdv A outer s H vs Q E hr h => ?_)
  · obtain ⟨_, _, _, _, rfl, _⟩ := h
    rfl
  obtain ⟨a, b, p, r, rfl, ha, hb, ⟨p1, p2⟩, ⟨r1, r2⟩, q⟩ := h
  refine ⟨_, (pss_one (ps_ret (pe_tup (pa_cons (pe_op (op_sub) (pe_op (op_mulV) (pe_ix (ix_tup) (pv 0) pe_int (fun _ _ => rfl)) (pe_ix (ix_tup) (pv 1) pe_int (fun _ _ => rfl))) (pe_op (op_mulV) (pe_ix (ix_tup) (pv 0) pe_int (fun _ _ => rfl)) (pe_ix (ix_tup) (pv 1) pe_int (fun _ _ => rfl)))) (pa_cons (pe_op (op_add) (pe_op (op_mulV) (pe_ix (ix_tup) (pv 0) pe_int (fun _ _ => rfl)) (pe_ix (ix_tup) (pv 1) pe_int (fun _ _ => rfl))) (pe_op (op_mulV) (pe_ix (ix_tup) (pv 0) pe_int (fun _ _ => rfl)) (pe_ix (ix_tup) (pv 1) pe_int (fun _ _ => rfl)))) pa_nil))))), ?_⟩
  fail "st"
  fail "go"
  refine st_i (cm210 p1 r1) ?_
  fail "go"
  refine st_i (cm210 p2 r2) ?_
  fail "go"
  refine st_i (cm210 p1 r2) ?_
  fail "go"
  refine st_i (cm210 p2 r1) ?_
  fail "go"
  rename_i t kt
  exact q t kt
theorem ok__law_bits {f : Addr} {fd : FuncData} (F : Fun K "_law_bits" "_law_bits" s__law_bits f fd) (c__law_mixed : Cal P w K mg base CX0 1 "_law_mixed" ["_law_draw", "_law_k"] (sp__law_mixed K)) : FnOk P w K mg base CX0 2 f fd ["_law_draw", "_law_k", "_law_n"] (sp__law_bits K) := by
  refine F.ok sc__law_bits (fun vs H Q E h => ?_) (fun cdv A outer s H vs Q E hr h => ?_)
  · obtain ⟨_, _, _, rfl, _⟩ := h
    rfl
  obtain ⟨c, k, n, rfl, hk, hn, q⟩ := h
  refine ⟨_, (pss_one (ps_ret (pe_op (op_mod) (pe_fn c__law_mixed hr pass0 (pa_cons (pv 0) (pa_cons (pv 1) pa_nil))) (pe_op (op_shl) pe_int (pv 2))))), ?_⟩
  fail "go"
  refine ⟨c, k, rfl, by omega, fun m1 h1 => ?_⟩
  fail "go"
  rename_i m em hm
  exact q m hm
theorem ok_same_whole {f : Addr} {fd : FuncData} (F : Fun K "same_whole" "same_whole" s_same_whole f fd) (b_min : mg "min" = none) (b_all : mg "all" = none) (b_sorted : mg "sorted" = none) (c_multiplied : Cal P w K mg base CX0 1 "multiplied" ["one", "other"] (sp_multiplied K)) : FnOk P w K mg base CX0 2 f fd ["one", "other"] (sp_same_whole K) := by
  refine F.ok sc_same_whole (fun vs H Q E h => ?_) (fun cdv A outer s H vs Q E hr h => ?_)
  · obtain ⟨_, _, _, _, rfl, _⟩ := h
    rfl
  obtain ⟨a, b, ws, us, rfl, hab, ⟨k1, h1, w1⟩, ⟨k2, h2, w2⟩, zw, zu, h0, hl, hl2, q⟩ := h
  refine ⟨_, (pss_cons (ps_if (pt_cmpR (op_neD (hu_of64 hr)) (pe_callB (call_sortedD rfl) rfl b_sorted PyProof.Rows.boot_sorted (pa_cons (pv 0) pa_nil)) (pe_callB (call_sortedD rfl) rfl b_sorted PyProof.Rows.boot_sorted (pa_cons (pv 1) pa_nil)) (nomark _)) (pss_one (ps_ret pe_bl)) pss_nil)
      (pss_cons (ps_set (i := 2) sc_same_whole.nd rfl (Or.inr rfl) (pe_callB (call_minD rfl) rfl b_min boot_min (pa_cons (pv 0) pa_nil)))
      (pss_one (ps_ret (pe_callB (call_allB rfl) rfl b_all boot_all (pa_cons (pe_thaw (pe_comp (sc := defScope s_same_whole) rfl ⟨rfl, by decide +kernel, rfl, by decide +kernel, by decide +kernel, by decide +kernel, by decide +kernel⟩ (by show ("b" : Str) ∉ (["one", "other", "first"] : List Str); decide +kernel) (by show (".0" : Str) ∉ (["one", "other", "first"] : List Str); decide +kernel) sc_same_whole.nd rfl (pi_keys (pv 0)) (fun _ _ _ _ => pif_nil) (fun _ _ _ _ => (pe_cmpR (op_eqDK (K := K) rfl (hu_of64 hr)) (pe_fn c_multiplied hr pass0 (pa_cons (pe_dget (hu_of hr) (pv 1) (pv 3) (fun _ _ => rfl)) (pa_cons (pe_dget (hu_of hr) (pv 2) (pv 0) (fun _ _ => rfl)) pa_nil))) (pe_fn c_multiplied hr pass0 (pa_cons (pe_dget (hu_of hr) (pv 1) (pv 0) (fun _ _ => rfl)) (pa_cons (pe_dget (hu_of hr) (pv 2) (pv 3) (fun _ _ => rfl)) pa_nil))) (nomark _))))) pa_nil)))))), ?_⟩
  fail "st"
  fail "go"
  refine ⟨a, k1, _, rfl, .inl h1, w1.kints, by rw [kz_len]; omega, fun p1 ms1 kp1 pm1 up1 => ?_⟩
  fail "go"
  refine ⟨b, k2, _, rfl, .inl (same_new kp1 _ _ _ h2), w2.kints, by rw [kz_len]; omega, fun p2 ms2 kp2 pm2 up2 => ?_⟩
  have ks := keys_same zw.nd zu.nd pm1 pm2 up1 up2
  refine rNeD_intsL (is := ms1) (js := ms2) ((same_new kp2 _).seq (SqL.of upd_same)) (SqL.of upd_same) ?_
  have S0 : Same H (upd (upd H p1 (.lst (ms1.map V.int))) p2 (.lst (ms2.map V.int))) := (same_new kp1 _).trans (same_new kp2 _)
  generalize upd (upd H p1 (.lst (ms1.map V.int))) p2 (.lst (ms2.map V.int)) = G at S0 ⊢
  fail "go"
  refine iteN (fun c => ?_) (fun c => ?_)
  · fail "go"
    exact q false _ S0 ⟨fun z => (by cases z), fun d => (c (ks.mpr d.1)).elim⟩
  · have hk := ks.mp c
    have h1G := S0 _ _ h1
    have h2G := S0 _ _ h2
    have w1G := w1.stay (K := K) (H' := G) fun y ys s => S0.tup s
    have w2G := w2.stay (K := K) (H' := G) fun y ys s => S0.tup s
    fail "go"
    refine ⟨a, k1, _, rfl, .inl h1G, w1.kints, by rw [kz_len]; omega, fun M hM _ => ?_⟩
    obtain ⟨f, hf, rfl⟩ := kz_mem.mp hM
    have hfu := (hk f).mp hf
    fail "go"
    refine st_cpK (fun P h => ⟨_, rfl, h⟩) h1G (by rw [w1.len]; omega) (fun o i ys H' => But a G H' ∧ H' a = some (.frz o (.dK k1)) ∧ ys = ((ws.take i).map fun e => decide (gm (wv ws f) (wv us e.1) = gm (wv ws e.1) (wv us f))).map V.bl) (fun o => ⟨But.upd, upd_same, rfl⟩) ?_ ?_ ?_ ?_
    · rintro o i ys H' ⟨_, _, rfl⟩
      rw [List.length_map, List.length_map, List.length_take]
      omega
    · rintro o i ys H' ⟨_, e, _⟩
      exact e
    · rintro o i k v ys H' hget ⟨hB, hz, rfl⟩
      obtain ⟨c, pp, a', e1, rfl, rfl, sq⟩ := w1.get hget
      have hcw : c ∈ ws.map (·.1) := List.mem_map.mpr ⟨_, List.mem_of_getElem? e1, rfl⟩
      have hcu := (hk c).mp hcw
      have rdA : Rd H' a (.dK k1) := .inr ⟨o, hz⟩
      have rdB : Rd H' b (.dK k2) := .inl (hB _ _ (Ne.symm hab) h2G)
      have wA := w1G.stay (K := K) (H' := H') (hB.tup h1G)
      have wB := w2G.stay (K := K) (H' := H') (hB.tup h1G)
      show tYes (some (V.int ((c : Nat) : Int)) :: _) H' _
      fail "go"
      obtain ⟨t1, d1, s1⟩ := wA.dget rdA hf
      refine ⟨a, _, rfl, d1, ?_⟩
      fail "go"
      obtain ⟨t2, d2, s2⟩ := wB.dget rdB hcu
      refine ⟨b, _, rfl, d2, ?_⟩
      fail "go"
      refine ⟨t1, t2, _, _, rfl, s1, s2, zw.at hf, zu.at hcu, fun t3 k3 => ?_⟩
      have n3 := same_new k3 (.tup [.int (gm (wv ws f) (wv us c)).1, .int (gm (wv ws f) (wv us c)).2])
      have f3 : SqT K (upd H' t3 (.tup [.int (gm (wv ws f) (wv us c)).1, .int (gm (wv ws f) (wv us c)).2])) t3 [.int (gm (wv ws f) (wv us c)).1, .int (gm (wv ws f) (wv us c)).2] := SqT.of upd_same
      have hz3 := n3 _ _ hz
      have hB3 : But a G (upd H' t3 (.tup [.int (gm (wv ws f) (wv us c)).1, .int (gm (wv ws f) (wv us c)).2])) := fun x o hx e => n3 _ _ (hB x o hx e)
      generalize upd H' t3 (.tup [.int (gm (wv ws f) (wv us c)).1, .int (gm (wv ws f) (wv us c)).2]) = G3 at n3 f3 hz3 hB3 ⊢
      have rdA3 : Rd G3 a (.dK k1) := .inr ⟨o, hz3⟩
      have rdB3 : Rd G3 b (.dK k2) := .inl (hB3 _ _ (Ne.symm hab) h2G)
      have wA3 := wA.stay (K := K) (H' := G3) fun y ys s => n3.tup s
      have wB3 := wB.stay (K := K) (H' := G3) fun y ys s => n3.tup s
      fail "go"
      obtain ⟨t4, d4, s4⟩ := wA3.dget rdA3 hcw
      refine ⟨a, _, rfl, d4, ?_⟩
      fail "go"
      obtain ⟨t5, d5, s5⟩ := wB3.dget rdB3 hfu
      refine ⟨b, _, rfl, d5, ?_⟩
      fail "go"
      refine ⟨t4, t5, _, _, rfl, s4, s5, zw.at hcw, zu.at hfu, fun t6 k6 => ?_⟩
      have n6 := same_new k6 (.tup [.int (gm (wv ws c) (wv us f)).1, .int (gm (wv ws c) (wv us f)).2])
      refine rEqD_2 (n6.tup f3) (SqT.of upd_same) ?_
      rw [dec_pair]
      fail "go"
      refine ⟨fun x o hx e => n6 _ _ (hB3 x o hx e), n6 _ _ hz3, ?_⟩
      rw [take_succV e1, List.map_append, List.map_append]
      rfl
    · rintro o ys H' ⟨hB, hz, rfl⟩ p hp
      have hpa : p ≠ a := fun z => by rw [z, hz] at hp; cases hp
      rw [w1.len, List.take_length]
      fail "go"
      have S1 : Same H (upd (upd H' p (.lst ((ws.map fun e => decide (gm (wv ws f) (wv us e.1) = gm (wv ws e.1) (wv us f))).map V.bl))) a (.dK k1)) := fun x o' e => by
        by_cases hx : x = a
        · subst hx
          rw [h1] at e
          rw [upd_same]
          exact e
        · rw [upd_ne hx]
          exact same_new hp _ _ _ (hB x o' hx (S0 _ _ e))
      refine ⟨p, _, rfl, SqL.of (by rw [upd_ne hpa]; exact upd_same), ?_⟩
      refine q _ _ S1 ?_
      rw [due_first hk hf (zw.ne hf), List.all_eq_true]
      constructor
      · intro h b hb
        obtain ⟨e, he, rfl⟩ := List.mem_map.mp hb
        exact of_decide_eq_true (h _ (List.mem_map.mpr ⟨e, he, rfl⟩))
      · intro h x hx
        obtain ⟨e, he, rfl⟩ := List.mem_map.mp hx
        exact decide_eq_true (h _ (List.mem_map.mpr ⟨e, he, rfl⟩))
theorem ok__law_due {f : Addr} {fd : FuncData} (F : Fun K "_law_due" "_law_due" s__law_due f fd) (b_sorted : mg "sorted" = none) (c__law_multiplied : Cal P w K mg base CX0 1 "_law_multiplied" ["_law_one", "_law_other"] (sp__law_multiplied K)) : FnOk P w K mg base CX0 2 f fd ["_law_one", "_law_other"] (sp__law_due K) := by
  refine F.ok sc__law_due (fun vs H Q E h => ?_) (fun cdv A outer s H vs Q E hr h => ?_)
  · obtain ⟨_, _, _, _, rfl, _⟩ := h
    rfl
  obtain ⟨a, b, ws, us, rfl, hab, ⟨k1, h1, w1⟩, ⟨k2, h2, w2⟩, zw, zu, hl, hl2, q⟩ := h
  refine ⟨_, (pss_cons (ps_if (pt_cmpR (op_neD (hu_of64 hr)) (pe_callB (call_sortedD rfl) rfl b_sorted PyProof.Rows.boot_sorted (pa_cons (pv 0) pa_nil)) (pe_callB (call_sortedD rfl) rfl b_sorted PyProof.Rows.boot_sorted (pa_cons (pv 1) pa_nil)) (nomark _)) (pss_one (ps_ret pe_bl)) pss_nil)
      (pss_cons (ps_thaw (ps_for PassesOwn.never rfl (pi_keys (pv 0)) (pg_name (i := 2) sc__law_due.nd rfl (Or.inl rfl)) (pss_one (ps_thaw (ps_for PassesOwn.never rfl (pi_keys (pv 0)) (pg_name (i := 3) sc__law_due.nd rfl (Or.inl rfl)) (pss_one (ps_if (pt_cmpR (op_neD (hu_of64 hr)) (pe_fn c__law_multiplied hr pass0 (pa_cons (pe_dget (hu_of hr) (pv 0) (pv 2) (fun _ _ => rfl)) (pa_cons (pe_dget (hu_of hr) (pv 1) (pv 3) (fun _ _ => rfl)) pa_nil))) (pe_fn c__law_multiplied hr pass0 (pa_cons (pe_dget (hu_of hr) (pv 1) (pv 2) (fun _ _ => rfl)) (pa_cons (pe_dget (hu_of hr) (pv 0) (pv 3) (fun _ _ => rfl)) pa_nil))) (nomark _)) (pss_one (ps_ret pe_bl)) pss_nil)))))))
      (pss_one (ps_ret pe_bl)))), ?_⟩
  fail "st"
  fail "go"
  refine ⟨a, k1, _, rfl, .inl h1, w1.kints, by rw [kz_len]; omega, fun p1 ms1 kp1 pm1 up1 => ?_⟩
  fail "go"
  refine ⟨b, k2, _, rfl, .inl (same_new kp1 _ _ _ h2), w2.kints, by rw [kz_len]; omega, fun p2 ms2 kp2 pm2 up2 => ?_⟩
  have ks := keys_same zw.nd zu.nd pm1 pm2 up1 up2
  refine rNeD_intsL (is := ms1) (js := ms2) ((same_new kp2 _).seq (SqL.of upd_same)) (SqL.of upd_same) ?_
  have S0 : Same H (upd (upd H p1 (.lst (ms1.map V.int))) p2 (.lst (ms2.map V.int))) := (same_new kp1 _).trans (same_new kp2 _)
  generalize upd (upd H p1 (.lst (ms1.map V.int))) p2 (.lst (ms2.map V.int)) = G at S0 ⊢
  fail "go"
  refine iteN (fun c => ?_) (fun c => ?_)
  · fail "go"
    exact q false _ S0 ⟨fun z => (by cases z), fun d => (c (ks.mpr d.1)).elim⟩
  · have hk := ks.mp c
    have h1G := S0 _ _ h1
    have h2G := S0 _ _ h2
    have w1G := w1.stay (K := K) (H' := G) fun y ys s => S0.tup s
    have w2G := w2.stay (K := K) (H' := G) fun y ys s => S0.tup s
    have thw : ∀ H', But a G H' → Same H (upd H' a (.dK k1)) := fun H' hB x o' e => by
      by_cases hx : x = a
      · subst hx
        rw [h1] at e
        rw [upd_same]
        exact e
      · rw [upd_ne hx]
        exact hB x o' hx (S0 _ _ e)
    fail "go"
    refine st_for_keys (fun P h => ⟨_, rfl, h⟩) h1G (fun o i σ H' => ∃ u v : Option V, σ = [some (.ref a), some (.ref b), u, v] ∧ But a G H' ∧ H' a = some (.frz o (.dK k1)) ∧ ∀ x ∈ (ws.take i).map (·.1), ∀ t ∈ ws.map (·.1), gm (wv ws x) (wv us t) = gm (wv us x) (wv ws t)) (fun o => ⟨none, none, rfl, But.upd, upd_same, fun x hx => by cases hx⟩) ?_ ?_ ?_
    · rintro o i σ H' ⟨u, v, _, _, e, _⟩
      exact e
    · rintro o i k v' σ H' hget ⟨u, v, rfl, hB, hz, hall⟩
      obtain ⟨x, pp, a', e1, rfl, rfl, sq⟩ := w1.get hget
      have hxw : x ∈ ws.map (·.1) := List.mem_map.mpr ⟨_, List.mem_of_getElem? e1, rfl⟩
      have hxu := (hk x).mp hxw
      fail "go"
      refine st_for_keysF (o := o) (fun P h => ⟨_, rfl, h⟩) hz (fun j σ H2 => ∃ v : Option V, σ = [some (.ref a), some (.ref b), some (.int ((x : Nat) : Int)), v] ∧ But a G H2 ∧ H2 a = some (.frz o (.dK k1)) ∧ ∀ t ∈ (ws.take j).map (·.1), gm (wv ws x) (wv us t) = gm (wv us x) (wv ws t)) ⟨v, rfl, hB, hz, fun t ht => by cases ht⟩ ?_ ?_ ?_
      · rintro j σ H2 ⟨v, _, _, e, _⟩
        exact e
      · rintro j k v'' σ H2 hget2 ⟨v, rfl, hB2, hz2, hall2⟩
        obtain ⟨t, qq', a'', e2, rfl, rfl, sq2⟩ := w1.get hget2
        have htw : t ∈ ws.map (·.1) := List.mem_map.mpr ⟨_, List.mem_of_getElem? e2, rfl⟩
        have htu := (hk t).mp htw
        have rdA : Rd H2 a (.dK k1) := .inr ⟨o, hz2⟩
        have rdB : Rd H2 b (.dK k2) := .inl (hB2 _ _ (Ne.symm hab) h2G)
        have wA := w1G.stay (K := K) (H' := H2) (hB2.tup h1G)
        have wB := w2G.stay (K := K) (H' := H2) (hB2.tup h1G)
        fail "go"
        obtain ⟨t1, d1, s1⟩ := wA.dget rdA hxw
        refine ⟨a, _, rfl, d1, ?_⟩
        fail "go"
        obtain ⟨t2, d2, s2⟩ := wB.dget rdB htu
        refine ⟨b, _, rfl, d2, ?_⟩
        fail "go"
        refine ⟨t1, t2, _, _, rfl, s1, s2, zw.at hxw, zu.at htu, fun t3 k3 => ?_⟩
        have n3 := same_new k3 (.tup [.int (gm (wv ws x) (wv us t)).1, .int (gm (wv ws x) (wv us t)).2])
        have f3 : SqT K (upd H2 t3 (.tup [.int (gm (wv ws x) (wv us t)).1, .int (gm (wv ws x) (wv us t)).2])) t3 [.int (gm (wv ws x) (wv us t)).1, .int (gm (wv ws x) (wv us t)).2] := SqT.of upd_same
        have hz3 := n3 _ _ hz2
        have hB3 : But a G (upd H2 t3 (.tup [.int (gm (wv ws x) (wv us t)).1, .int (gm (wv ws x) (wv us t)).2])) := fun x o hx e => n3 _ _ (hB2 x o hx e)
        generalize upd H2 t3 (.tup [.int (gm (wv ws x) (wv us t)).1, .int (gm (wv ws x) (wv us t)).2]) = G3 at n3 f3 hz3 hB3 ⊢
        have rdA3 : Rd G3 a (.dK k1) := .inr ⟨o, hz3⟩
        have rdB3 : Rd G3 b (.dK k2) := .inl (hB3 _ _ (Ne.symm hab) h2G)
        have wA3 := wA.stay (K := K) (H' := G3) fun y ys s => n3.tup s
        have wB3 := wB.stay (K := K) (H' := G3) fun y ys s => n3.tup s
        fail "go"
        obtain ⟨t4, d4, s4⟩ := wB3.dget rdB3 hxu
        refine ⟨b, _, rfl, d4, ?_⟩
        fail "go"
        obtain ⟨t5, d5, s5⟩ := wA3.dget rdA3 htw
        refine ⟨a, _, rfl, d5, ?_⟩
        fail "go"
        refine ⟨t4, t5, _, _, rfl, s4, s5, zu.at hxu, zw.at htw, fun t6 k6 => ?_⟩
        have n6 := same_new k6 (.tup [.int (gm (wv us x) (wv ws t)).1, .int (gm (wv us x) (wv ws t)).2])
        refine rNeD_2 (n6.tup f3) (SqT.of upd_same) ?_
        rw [dec_pair]
        have hB6 : But a G (upd G3 t6 (.tup [.int (gm (wv us x) (wv ws t)).1, .int (gm (wv us x) (wv ws t)).2])) := fun x o hx e => n6 _ _ (hB3 x o hx e)
        have hz6 := n6 _ _ hz3
        generalize upd G3 t6 (.tup [.int (gm (wv us x) (wv ws t)).1, .int (gm (wv us x) (wv ws t)).2]) = G6 at hB6 hz6 ⊢
        fail "go"
        refine iteN (fun c => ?_) (fun c => ?_)
        · fail "go"
          refine ⟨o, hz6, ?_⟩
          exact q false _ (thw _ hB6) ⟨fun z => (by cases z), fun d => (c (d.2 x hxw t htw)).elim⟩
        · fail "go"
          refine ⟨_, rfl, hB6, hz6, fun t' ht' => ?_⟩
          rw [take_succV e2, List.map_append] at ht'
          rcases List.mem_append.mp ht' with z | z
          · exact hall2 t' z
          · have e : t' = t := List.mem_singleton.mp z
            subst e
            exact c
      · rintro σ H2 ⟨v, rfl, hB2, hz2, hall2⟩
        rw [w1.len, List.take_length] at hall2
        fail "go"
        refine ⟨_, _, rfl, hB2, hz2, fun x' hx' => ?_⟩
        rw [take_succV e1, List.map_append] at hx'
        rcases List.mem_append.mp hx' with z | z
        · exact hall x' z
        · have e : x' = x := List.mem_singleton.mp z
          subst e
          exact hall2
    · rintro o σ H' ⟨u, v, rfl, hB, hz, hall⟩
      rw [w1.len, List.take_length] at hall
      fail "go"
      exact q true _ (thw _ hB) ⟨fun _ => ⟨hk, hall⟩, fun _ => rfl⟩
theorem ok__law_whole {f : Addr} {fd : FuncData} (F : Fun K "_law_whole" "_law_whole" s__law_whole f fd) (c__law_number : Cal P w K mg base CX0 2 "_law_number" ["_law_draw", "_law_k"] (sp__law_number K)) (c__law_bits : Cal P w K mg base CX0 2 "_law_bits" ["_law_draw", "_law_k", "_law_n"] (sp__law_bits K)) : FnOk P w K mg base CX0 3 f fd ["_law_cells"] (sp__law_whole K) := by
  refine F.ok sc__law_whole (fun vs H Q E h => ?_) (fun cdv A outer s H vs Q E hr h => ?_)
  · obtain ⟨_, _, rfl, _⟩ := h
    rfl
  obtain ⟨a, ns, rfl, ha, hn, q⟩ := h
  refine ⟨_, (pss_cons (ps_set (i := 1) sc__law_whole.nd rfl (Or.inl rfl) pe_dnew)
      (pss_cons (ps_for PassesOwn.never rfl (pi_list (pv 0)) (pg_name (i := 2) sc__law_whole.nd rfl (Or.inl rfl)) (pss_cons (ps_set (i := 3) sc__law_whole.nd rfl (Or.inl rfl) (pe_tup (pa_cons (pe_fn c__law_number hr pass0 (pa_cons (pv 2) (pa_cons pe_int pa_nil))) (pa_cons (pe_fn c__law_number hr pass0 (pa_cons (pv 2) (pa_cons pe_int pa_nil))) pa_nil))))
      (pss_one (ps_if (pt_cmpR (op_neD (hu_of64 hr)) (pv 3) (pe_tup (pa_cons pe_int (pa_cons pe_int pa_nil))) (nomark _)) (pss_one (ps_dput (hu_of hr) (pv 1) (pe_fn c__law_bits hr pass0 (pa_cons (pv 2) (pa_cons pe_int (pa_cons pe_int pa_nil)))) (pv 3) rfl)) pss_nil))))
      (pss_cons (ps_if (pt_cmpR (op_eqM (hu_of64 hr)) (pv 1) pe_dnew (nomark _)) (pss_one (ps_dput (hu_of hr) (pv 1) pe_int (pe_tup (pa_cons pe_int (pa_cons pe_int pa_nil))) rfl)) pss_nil)
      (pss_one (ps_ret (pv 1)))))), ?_⟩
  fail "st"
  fail "go"
  rename_i p hp
  have f0 : (upd H p (.dK [])) p = some (.dK []) := upd_same
  have hap : SqL K (upd H p (.dK [])) a (ns.map V.int) := (same_new hp _).seq ha
  have S0 : Same H (upd H p (.dK [])) := same_new hp _
  generalize upd H p (.dK []) = G0 at S0 f0 hap ⊢
  have sqb : ∀ H', But p G0 H' → SqL K H' a (ns.map V.int) := fun H' hB => by
    rcases ha with (z | ⟨o, z⟩) | z
    · exact .inl (.inl (hB _ _ (ne_of_none z hp) (S0 _ _ z)))
    · exact .inl (.inr ⟨o, hB _ _ (ne_of_none z hp) (S0 _ _ z)⟩)
    · exact .inr z
  refine st_for_list (fun P h => ⟨_, rfl, h⟩) hap (fun i σ H' => ∃ (u v : Option V) (ws : Wh), σ = [some (.ref a), some (.ref p), u, v] ∧ But p G0 H' ∧ WhAt K H' p ws ∧ Wz (2 ^ 100) ws ∧ ws.length ≤ i) ⟨none, none, [], rfl, fun _ _ _ e => e, ⟨[], f0, .nil⟩, ⟨⟨by simp, fun _ z => nomatch z⟩, fun _ z => nomatch z⟩, Nat.le_refl _⟩ ?_ ?_ ?_
  · rintro i σ H' _ ⟨u, v, ws, _, hB, _⟩
    exact sqb _ hB
  · rintro i x σ H' hx ⟨u, v, ws, rfl, hB, hW, ok, hl⟩
    obtain ⟨d, rfl⟩ := int_at hx
    have him : i < ns.length := by
      have := (List.getElem?_eq_some_iff.mp hx).1
      rw [List.length_map] at this
      exact this
    fail "go"
    refine ⟨d, 30, rfl, by omega, fun v1 H1 hS1 hv1 => ?_⟩
    fail "go"
    refine ⟨d, 31, rfl, by omega, fun v2 H2 hS2 hv2 => ?_⟩
    fail "go"
    rename_i t kt z kz
    have S2 : Same H' (upd (upd H2 t (.tup [.int v1, .int v2])) z (.tup [.int 0, .int 0])) := ((hS1.trans hS2).trans (same_new kt _)).trans (same_new kz _)
    have ft : SqT K (upd (upd H2 t (.tup [.int v1, .int v2])) z (.tup [.int 0, .int 0])) t [.int v1, .int v2] := (same_new kz _).tup (SqT.of upd_same)
    generalize upd (upd H2 t (.tup [.int v1, .int v2])) z (.tup [.int 0, .int 0]) = G at S2 ft ⊢
    have hB2 : But p G0 G := fun c o hc e => S2 _ _ (hB c o hc e)
    refine iteN (fun c => ?_) (fun _ => ?_)
    · have hne : (v1, v2) ≠ (0, 0) := fun z => c (by injection z with z1 z2; rw [z1, z2])
      fail "go"
      refine ⟨d, 20, 6, rfl, by omega, by omega, fun m hm => ?_⟩
      obtain ⟨kvs, h1, h2⟩ := hW.stay S2
      have hlen := h2.len
      refine ⟨p, _, rfl, dput_z h1 (by omega), _, _, wput ws m (v1, v2), rfl, fun c o hc e => by rw [upd_ne hc]; exact hB2 c o hc e, ⟨_, upd_same, ?_⟩, ok.put ⟨hv1, hv2⟩ hne, by have := wput_le ws m (v1, v2); omega⟩
      have hBp : But p G (upd G p (.dK (putK kvs (.inl ((m : Nat) : Int)) (.ref t)))) := But.upd
      exact (h2.stay fun y ys s => hBp.tup h1 y ys s).put (hBp.tup h1 _ _ ft)
    · fail "go"
      exact ⟨_, _, ws, rfl, hB2, hW.stay S2, ok, by omega⟩
  · rintro σ H' ⟨u, v, ws, rfl, hB, ⟨kvs, h1, h2⟩, ok, hl⟩
    rw [List.length_map] at hl
    fail "go"
    rename_i z kz
    have hSH : Same H H' := fun c o e => hB c o (ne_of_none e hp) (S0 c o e)
    have Sz : Same H' (upd H' z (.dK [])) := same_new kz _
    have h1' := Sz _ _ h1
    have h2' := h2.stay (K := K) (H' := upd H' z (.dK [])) fun y ys s => Sz.tup s
    refine st_eqM (g := wd []) (.inl h1') (.inl upd_same) (h2'.dv ok.nd) (fun k x hx => nomatch hx) ?_
    generalize upd H' z (.dK []) = G at Sz h1' h2' ⊢
    rw [Bool.xor_false]
    cases ws with
    | cons e ws =>
      have hc : sameD kvs [] (wd (e :: ws)) (wd []) = false := by
        have := h2'.len
        unfold sameD
        rw [decide_eq_false (by rw [this]; simp)]
        rfl
      rw [hc]
      refine ⟨false, rfl, ?_⟩
      fail "go"
      exact q p _ _ (hSH.trans Sz) ⟨kvs, h1', h2'⟩ ok (Nat.succ_pos _) (by omega)
    | nil =>
      have hkv : kvs = [] := List.eq_nil_of_length_eq_zero h2'.len
      subst hkv
      refine ⟨true, rfl, ?_⟩
      fail "go"
      rename_i t kt
      have St : Same G (upd G t (.tup [.int 1, .int 0])) := same_new kt _
      have ft : SqT K (upd G t (.tup [.int 1, .int 0])) t [.int 1, .int 0] := SqT.of upd_same
      have h1t := St _ _ h1'
      generalize upd G t (.tup [.int 1, .int 0]) = G3 at St ft h1t ⊢
      refine ⟨p, _, rfl, dput_z h1t (by decide), ?_⟩
      have hBp : But p G3 (upd G3 p (.dK (putK [] (.inl (((5 : Nat) : Nat) : Int)) (.ref t)))) := But.upd
      fail "go"
      refine q p _ [(5, (1, 0))] (fun c o e => hBp c o (ne_of_none e hp) (St _ _ (Sz _ _ (hSH c o e)))) ⟨_, upd_same, ?_⟩ ⟨⟨by simp, fun e he => by rw [List.mem_singleton.mp he]; exact ⟨by decide, by decide⟩⟩, fun e he => by rw [List.mem_singleton.mp he]; simp⟩ (by decide) (by decide)
      exact WR.put (ws := []) (b := 5) (p := (1, 0)) .nil (hBp.tup h1t _ _ ft)
theorem ok__law_times {f : Addr} {fd : FuncData} (F : Fun K "_law_times" "_law_times" s__law_times f fd) (b_dict : mg "dict" = none) (c__law_multiplied : Cal P w K mg base CX0 1 "_law_multiplied" ["_law_one", "_law_other"] (sp__law_multiplied K)) : FnOk P w K mg base CX0 2 f fd ["_law_whole_here", "_law_factor_here"] (sp__law_times K) := by
  refine F.ok sc__law_times (fun vs H Q E h => ?_) (fun cdv A outer s H vs Q E hr h => ?_)
  · obtain ⟨_, _, _, _, rfl, _⟩ := h
    rfl
  obtain ⟨a, fa, ws, c, rfl, ⟨kvs, ha, hWR⟩, ok, hl, hf, hc, q⟩ := h
  refine ⟨_, (pss_one (ps_ret (pe_callTy (call_dictP rfl) rfl b_dict boot_dict (pa_cons (pe_thaw (pe_comp2 (sc := defScope s__law_times) rfl ⟨rfl, by decide +kernel, rfl, rfl, by decide +kernel, by decide +kernel, by decide +kernel, by decide +kernel⟩ (by show ("_law_here" : Str) ∉ (["_law_whole_here", "_law_factor_here"] : List Str); decide +kernel) (by show ("_law_number_here" : Str) ∉ (["_law_whole_here", "_law_factor_here"] : List Str); decide +kernel) (by decide +kernel) (by show (".0" : Str) ∉ (["_law_whole_here", "_law_factor_here"] : List Str); decide +kernel) sc__law_times.nd rfl (pi_items (pv 0)) (fun _ _ _ _ => pif_nil) (fun _ _ _ _ => (pe_tup (pa_cons (pv 0) (pa_cons (pe_fn c__law_multiplied hr pass0 (pa_cons (pv 1) (pa_cons (pv 3) pa_nil))) pa_nil)))))) pa_nil)))), ?_⟩
  fail "st"
  fail "go"
  refine st_cpI (fun P h => ⟨_, rfl, h⟩) ha (by rw [hWR.len]; omega) (fun o i ys H' => ∃ as, But a H H' ∧ H' a = some (.frz o (.dK kvs)) ∧ ys = as.map V.ref ∧ ∃ kvs', PairsAt K H' as kvs' ∧ WR K H' (wtm c (ws.take i)) kvs') (fun o => ⟨[], But.upd, upd_same, rfl, [], .nil, .nil⟩) ?_ ?_ ?_ ?_
  · rintro o i ys H' ⟨as, _, _, rfl, kvs', hp, hw⟩
    have e := hp.length
    have e2 := hw.len
    unfold wtm at e2
    rw [List.length_map, List.length_take] at e2
    rw [List.length_map]
    omega
  · rintro o i ys H' ⟨as, _, h, _⟩
    exact h
  · rintro o i k v ys H' x hget ⟨as, h5, h1, rfl, kvs', hpr, hwr⟩ hx
    obtain ⟨b, pp, a', e1, rfl, rfl, sq⟩ := hWR.get hget
    have hpp := ok.sm _ (List.mem_of_getElem? e1)
    have sq' : SqT K (upd H' x (.tup [kV (.inl ((b : Nat) : Int)), .ref a'])) a' [.int pp.1, .int pp.2] := (same_new hx _).tup (h5.tup ha _ _ sq)
    have hf' : SqT K (upd H' x (.tup [kV (.inl ((b : Nat) : Int)), .ref a'])) fa [.int c.1, .int c.2] := (same_new hx _).tup (h5.tup ha _ _ hf)
    have ha2 := same_new hx (.tup [kV (.inl ((b : Nat) : Int)), .ref a']) _ _ h1
    have hB2 : But a H (upd H' x (.tup [kV (.inl ((b : Nat) : Int)), .ref a'])) := fun c o' hc e => same_new hx _ _ _ (h5 _ _ hc e)
    have ss : Same H' (upd H' x (.tup [kV (.inl ((b : Nat) : Int)), .ref a'])) := same_new hx _
    generalize upd H' x (.tup [kV (.inl ((b : Nat) : Int)), .ref a']) = G at sq' hf' ha2 hB2 ss ⊢
    show tYes (some (V.int ((b : Nat) : Int)) :: some (.ref a') :: _) G _
    fail "go"
    refine ⟨a', fa, pp, c, rfl, sq', hf', ⟨Nat.lt_trans hpp.1 (by decide), Nat.lt_trans hpp.2 (by decide)⟩, ⟨Nat.lt_trans hc.1 (by decide), Nat.lt_trans hc.2 (by decide)⟩, fun t1 k1 => ?_⟩
    fail "go"
    rename_i t2 k2
    have S2 : Same G (upd (upd G t1 (.tup [.int (gm pp c).1, .int (gm pp c).2])) t2 (.tup [kV (.inl ((b : Nat) : Int)), .ref t1])) := (same_new k1 _).trans (same_new k2 _)
    have f1 : SqT K (upd (upd G t1 (.tup [.int (gm pp c).1, .int (gm pp c).2])) t2 (.tup [kV (.inl ((b : Nat) : Int)), .ref t1])) t1 [.int (gm pp c).1, .int (gm pp c).2] := (same_new k2 _).tup (SqT.of upd_same)
    have f2 : SqT K (upd (upd G t1 (.tup [.int (gm pp c).1, .int (gm pp c).2])) t2 (.tup [kV (.inl ((b : Nat) : Int)), .ref t1])) t2 [kV (.inl ((b : Nat) : Int)), .ref t1] := SqT.of upd_same
    generalize upd (upd G t1 (.tup [.int (gm pp c).1, .int (gm pp c).2])) t2 (.tup [kV (.inl ((b : Nat) : Int)), .ref t1]) = G2 at S2 f1 f2 ⊢
    have SS := ss.trans S2
    refine ⟨as ++ [t2], fun c o' hc e => S2 _ _ (hB2 c o' hc e), S2 _ _ ha2, by rw [List.map_append]; rfl, kvs' ++ [(.inl ((b : Nat) : Int), .ref t1)], ?_, ?_⟩
    · exact Paired.snoc (pr_map (fun a kv h => SS.tup h) hpr) f2
    · rw [take_succV e1]
      unfold wtm
      rw [List.map_append]
      exact (hwr.stay fun y ys s => SS.tup s).snoc (b := b) (p := gm pp c) f1
  · rintro o ys H' ⟨as, h5, h1, rfl, kvs', hpr, hwr⟩ p hp
    fail "go"
    have hpa : p ≠ a := fun z => by rw [z, h1] at hp; cases hp
    rw [hWR.len, List.take_length] at hwr
    have fz : ∀ x xs, SqT K H' x xs → SqT K (upd (upd H' p (.lst (as.map V.ref))) a (.dK kvs)) x xs := fun x xs s => frz_tup (by rw [upd_ne (Ne.symm hpa)]; exact h1) x xs ((same_new hp _).tup s)
    have hp0 : ∀ c o, H c = some o → c ≠ p := fun c o e z => by
      by_cases hc : c = a
      · exact hpa (z ▸ hc)
      · have := h5 c o hc e
        rw [z, hp] at this
        cases this
    have SH : Same H (upd (upd H' p (.lst (as.map V.ref))) a (.dK kvs)) := fun c o' e => by
      by_cases hc : c = a
      · subst hc
        rw [ha] at e
        rw [upd_same]
        exact e
      · rw [upd_ne hc, upd_ne (hp0 c o' e)]
        exact h5 c o' hc e
    have fl : (upd (upd H' p (.lst (as.map V.ref))) a (.dK kvs)) p = some (.lst (as.map V.ref)) := by rw [upd_ne hpa]; exact upd_same
    have hpr2 := pr_map (G := fun b (kv : Key × V) => SqT K (upd (upd H' p (.lst (as.map V.ref))) a (.dK kvs)) b [kV kv.1, kv.2]) (fun b kv h => fz _ _ h) hpr
    have hwr2 := hwr.stay fz
    generalize upd (upd H' p (.lst (as.map V.ref))) a (.dK kvs) = G at SH fl hpr2 hwr2 ⊢
    have hlen := hwr.len
    unfold wtm at hlen
    rw [List.length_map] at hlen
    refine ⟨p, as, kvs', rfl, fl, by omega, hpr2, ?_, fun q2 hq2 => ?_⟩
    · rw [hwr.keys, wtm_keys]
      exact keys_nodup ok.nd
    · exact q q2 _ (SH.trans (same_new hq2 _)) (SH.free hq2) ⟨kvs', upd_same, hwr2.stay fun y ys s => (same_new hq2 _).tup s⟩
theorem ok__law_factor {f : Addr} {fd : FuncData} (F : Fun K "_law_factor" "_law_factor" s__law_factor f fd) (c__law_number : Cal P w K mg base CX0 2 "_law_number" ["_law_draw", "_law_k"] (sp__law_number K)) : FnOk P w K mg base CX0 3 f fd ["_law_draw"] (sp__law_factor K) := by
  refine F.ok sc__law_factor (fun vs H Q E h => ?_) (fun cdv A outer s H vs Q E hr h => ?_)
  · obtain ⟨_, rfl, _⟩ := h
    rfl
  obtain ⟨d, rfl, q⟩ := h
  refine ⟨_, (pss_cons (ps_set (i := 1) sc__law_factor.nd rfl (Or.inl rfl) (pe_tup (pa_cons (pe_fn c__law_number hr pass0 (pa_cons (pv 0) (pa_cons pe_int pa_nil))) (pa_cons (pe_fn c__law_number hr pass0 (pa_cons (pv 0) (pa_cons pe_int pa_nil))) pa_nil))))
      (pss_cons (ps_if (pt_cmpR (op_eqD (hu_of64 hr)) (pv 1) (pe_tup (pa_cons pe_int (pa_cons pe_int pa_nil))) (nomark _)) (pss_one (ps_ret (pe_tup (pa_cons pe_int (pa_cons (pe_un un_neg pe_int) pa_nil))))) pss_nil)
      (pss_one (ps_ret (pv 1))))), ?_⟩
  fail "st"
  fail "go"
  refine ⟨d, 40, rfl, by omega, fun v1 H1 hS1 hv1 => ?_⟩
  fail "go"
  refine ⟨d, 41, rfl, by omega, fun v2 H2 hS2 hv2 => ?_⟩
  fail "go"
  rename_i t kt z kz
  have S2 : Same H (upd (upd H2 t (.tup [.int v1, .int v2])) z (.tup [.int 0, .int 0])) := ((hS1.trans hS2).trans (same_new kt _)).trans (same_new kz _)
  have ft : SqT K (upd (upd H2 t (.tup [.int v1, .int v2])) z (.tup [.int 0, .int 0])) t [.int v1, .int v2] := (same_new kz _).tup (SqT.of upd_same)
  generalize upd (upd H2 t (.tup [.int v1, .int v2])) z (.tup [.int 0, .int 0]) = G at S2 ft ⊢
  refine iteD (fun _ => ?_) (fun c => ?_)
  · fail "go"
    rename_i t2 k2
    exact q t2 _ (0, -1) (S2.trans (same_new k2 _)) (SqT.of upd_same) ⟨by decide, by decide⟩ (by decide)
  · fail "go"
    exact q t _ (v1, v2) S2 ft ⟨hv1, hv2⟩ fun z => c (by injection z with z1 z2; rw [z1, z2])
theorem ok__law_changed {f : Addr} {fd : FuncData} (F : Fun K "_law_changed" "_law_changed" s__law_changed f fd) (b_dict : mg "dict" = none) (b_sorted : mg "sorted" = none) (c__law_mixed : Cal P w K mg base CX0 1 "_law_mixed" ["_law_draw", "_law_k"] (sp__law_mixed K)) (b_len : mg "len" = none) : FnOk P w K mg base CX0 2 f fd ["_law_whole_here", "_law_draw"] (sp__law_changed K) := by
  refine F.ok sc__law_changed (fun vs H Q E h => ?_) (fun cdv A outer s H vs Q E hr h => ?_)
  · obtain ⟨_, _, _, rfl, _⟩ := h
    rfl
  obtain ⟨a, d, ws, rfl, ⟨k0, h0, w0⟩, zw, l1, l2, q⟩ := h
  refine ⟨_, (pss_cons (ps_set (i := 2) sc__law_changed.nd rfl (Or.inr rfl) (pe_callTy (call_dictQ) rfl b_dict boot_dict (pa_cons (pv 0) pa_nil)))
      (pss_cons (ps_set (i := 3) sc__law_changed.nd rfl (Or.inl rfl) (pe_callB (call_sortedD rfl) rfl b_sorted PyProof.Rows.boot_sorted (pa_cons (pv 2) pa_nil)))
      (pss_cons (ps_set (i := 4) sc__law_changed.nd rfl (Or.inl rfl) (pe_ix (ix_list) (pv 3) (pe_op (op_mod) (pe_fn c__law_mixed hr pass0 (pa_cons (pv 1) (pa_cons pe_int pa_nil))) (pe_callB (call_lenQ) rfl b_len PySem.boot_len (pa_cons (pv 3) pa_nil))) (fun _ _ => rfl)))
      (pss_cons (ps_set (i := 5) sc__law_changed.nd rfl (Or.inl rfl) (pe_ix (ix_list) (pv 3) (pe_op (op_mod) (pe_fn c__law_mixed hr pass0 (pa_cons (pv 1) (pa_cons pe_int pa_nil))) (pe_callB (call_lenQ) rfl b_len PySem.boot_len (pa_cons (pv 3) pa_nil))) (fun _ _ => rfl)))
      (pss_cons (ps_set (i := 6) sc__law_changed.nd rfl (Or.inl rfl) (pe_op (op_mod) (pe_fn c__law_mixed hr pass0 (pa_cons (pv 1) (pa_cons pe_int pa_nil))) pe_int))
      (pss_cons (ps_set (i := 7) sc__law_changed.nd rfl (Or.inl rfl) (pe_dget (hu_of hr) (pv 2) (pv 4) (fun _ _ => rfl)))
      (pss_cons (ps_if (pt_cmpR (op_eq) (pv 6) pe_int (nomark _)) (pss_one (ps_dput (hu_of hr) (pv 2) (pv 4) (pe_tup (pa_cons (pe_op (op_add) (pe_ix (ix_tup) (pv 7) pe_int (fun _ _ => rfl)) pe_int) (pa_cons (pe_ix (ix_tup) (pv 7) pe_int (fun _ _ => rfl)) pa_nil))) rfl)) pss_nil)
      (pss_cons (ps_if (pt_cmpR (op_eq) (pv 6) pe_int (nomark _)) (pss_one (ps_dput (hu_of hr) (pv 2) (pv 4) (pe_tup (pa_cons (pe_op (op_sub) pe_int (pe_ix (ix_tup) (pv 7) pe_int (fun _ _ => rfl))) (pa_cons (pe_ix (ix_tup) (pv 7) pe_int (fun _ _ => rfl)) pa_nil))) rfl)) pss_nil)
      (pss_cons (ps_if (PW.pt (pw_and (pt_cmpR (op_eq) (pv 6) pe_int (nomark _)) (pw_and1 (pt_cmpR (op_gt) (pe_callB (call_lenD) rfl b_len PySem.boot_len (pa_cons (pv 2) pa_nil)) pe_int (nomark _))))) (pss_one (ps_expr (pe_dpop1 (pv 2) (pv 4) ⟨rfl, rfl, rfl, rfl⟩))) pss_nil)
      (pss_cons (ps_if (pt_cmpR (op_eq) (pv 6) pe_int (nomark _)) (pss_one (ps_dput (hu_of hr) (pv 2) (pe_op (op_mod) (pe_fn c__law_mixed hr pass0 (pa_cons (pv 1) (pa_cons pe_int pa_nil))) pe_int) (pe_tup (pa_cons pe_int (pa_cons pe_int pa_nil))) rfl)) pss_nil)
      (pss_cons (ps_if (pt_cmpR (op_eq) (pv 6) pe_int (nomark _)) (pss_cons (ps_dput (hu_of hr) (pv 2) (pv 4) (pe_dget (hu_of hr) (pv 2) (pv 5) (fun _ _ => rfl)) rfl)
      (pss_one (ps_dput (hu_of hr) (pv 2) (pv 5) (pv 7) rfl))) pss_nil)
      (pss_cons (ps_if (pt_cmpR (op_eq) (pv 6) pe_int (nomark _)) (pss_one (ps_set (i := 2) sc__law_changed.nd rfl (Or.inr rfl) (pe_callTy (call_dictP rfl) rfl b_dict boot_dict (pa_cons (pe_comp (sc := defScope s__law_changed) rfl ⟨rfl, by decide +kernel, rfl, by decide +kernel, by decide +kernel, by decide +kernel, by decide +kernel⟩ (by show ("_law_k" : Str) ∉ (["_law_whole_here", "_law_draw", "_law_found", "_law_keys", "_law_here", "_law_there", "_law_way", "_law_number_here"] : List Str); decide +kernel) (by show (".0" : Str) ∉ (["_law_whole_here", "_law_draw", "_law_found", "_law_keys", "_law_here", "_law_there", "_law_way", "_law_number_here"] : List Str); decide +kernel) sc__law_changed.nd rfl (pi_list (pv 3)) (fun _ _ _ _ => pif_nil) (fun _ _ _ _ => (pe_tup (pa_cons (pe_op (op_xor) (pv 0) pe_int) (pa_cons (pe_dget (hu_of hr) (pv 3) (pv 0) (fun _ _ => rfl)) pa_nil))))) pa_nil)))) pss_nil)
      (pss_one (ps_ret (pe_callTy (call_dictP rfl) rfl b_dict boot_dict (pa_cons (pe_comp (sc := defScope s__law_changed) rfl ⟨rfl, by decide +kernel, rfl, by decide +kernel, by decide +kernel, by decide +kernel, by decide +kernel⟩ (by show ("_law_k" : Str) ∉ (["_law_whole_here", "_law_draw", "_law_found", "_law_keys", "_law_here", "_law_there", "_law_way", "_law_number_here"] : List Str); decide +kernel) (by show (".0" : Str) ∉ (["_law_whole_here", "_law_draw", "_law_found", "_law_keys", "_law_here", "_law_there", "_law_way", "_law_number_here"] : List Str); decide +kernel) sc__law_changed.nd rfl (pi_list (pe_sortR rfl rfl b_sorted PyProof.Rows.boot_sorted (pa_cons (pv 2) pa_nil) pe_bl)) (fun _ _ _ _ => (pif_one (pt_cmpR (op_neDK (K := K) rfl (hu_of64 hr)) (pe_dget (hu_of hr) (pv 3) (pv 0) (fun _ _ => rfl)) (pe_tup (pa_cons pe_int (pa_cons pe_int pa_nil))) (nomark _)))) (fun _ _ _ _ => (pe_tup (pa_cons (pv 0) (pa_cons (pe_dget (hu_of hr) (pv 3) (pv 0) (fun _ _ => rfl)) pa_nil))))) pa_nil)))))))))))))))), ?_⟩
  fail "st"
  fail "go"
  refine st_dict h0 fun fd kfd => ?_
  have n1 := same_new kfd (.dK k0)
  have fF : (upd H fd (.dK k0)) fd = some (.dK k0) := upd_same
  have wF := w0.stay (K := K) (H' := upd H fd (.dK k0)) fun y ys s => n1.tup s
  generalize upd H fd (.dK k0) = G1 at n1 fF wF ⊢
  fail "go"
  refine ⟨fd, k0, _, rfl, .inl fF, w0.kints, by rw [kz_len]; omega, fun pk ms kpk pm _ => ?_⟩
  have n2 := same_new kpk (.lst (ms.map V.int))
  have fK : (upd G1 pk (.lst (ms.map V.int))) pk = some (.lst (ms.map V.int)) := upd_same
  have fF2 := n2 _ _ fF
  have wF2 := wF.stay (K := K) (H' := upd G1 pk (.lst (ms.map V.int))) fun y ys s => n2.tup s
  have S2 := n1.trans n2
  generalize upd G1 pk (.lst (ms.map V.int)) = G2 at n2 fK fF2 wF2 S2 ⊢
  have hml : ms.length = ws.length := by rw [pm.length_eq, kz_len]
  have hmL : (ms.map V.int).length = ws.length := by rw [List.length_map, hml]
  have ndm0 : ms.Nodup := pm.nodup_iff.mpr (kz_nodup zw.nd)
  have sK := SqL.of (K := K) fK
  fail "go"
  refine ⟨d, 50, rfl, by omega, fun m1 hm1 => ?_⟩
  fail "go"
  rename_i j1 ej1 hj1
  obtain ⟨b1, hb1, e1⟩ := at_key (j := j1) (by omega) pm
  fail "go"
  refine ⟨d, 51, rfl, by omega, fun m2 hm2 => ?_⟩
  fail "go"
  rename_i j2 ej2 hj2
  obtain ⟨b2, hb2, e2⟩ := at_key (j := j2) (by omega) pm
  fail "go"
  refine ⟨d, 52, rfl, by omega, fun m3 hm3 => ?_⟩
  fail "go"
  obtain ⟨wy, ewy, hwy⟩ := emod_nat ((m3 : Nat) : Int) (n := 6) (by decide)
  rw [show ((m3 : Nat) : Int) % 6 = ((wy : Nat) : Int) from ewy]
  clear ewy ej1 ej2
  obtain ⟨t1, d1, s1⟩ := wF2.dget (.inl fF2) hb1
  refine ⟨fd, _, rfl, d1, ?_⟩
  have a1 := zw.at hb1
  have a2 := zw.at hb2
  fail "go"
  match wy, hwy with
  | 0, _ =>
    fail "kw"
    rename_i tn ktn
    have nA := same_new ktn (.tup [.int ((wv ws b1).1 + 1), .int ((wv ws b1).2)])
    have fnew : SqT K (upd G2 tn (.tup [.int ((wv ws b1).1 + 1), .int ((wv ws b1).2)])) tn [.int ((wv ws b1).1 + 1), .int ((wv ws b1).2)] := SqT.of upd_same
    have fFA := nA _ _ fF2
    have wFA := wF2.stay (K := K) (H' := upd G2 tn (.tup [.int ((wv ws b1).1 + 1), .int ((wv ws b1).2)])) fun y ys s => nA.tup s
    have SA := S2.trans nA
    generalize upd G2 tn (.tup [.int ((wv ws b1).1 + 1), .int ((wv ws b1).2)]) = GA at nA fnew fFA wFA SA ⊢
    have hBp : But fd GA (upd GA fd (.dK (putK k0 (.inl ((b1 : Nat) : Int)) (.ref tn)))) := But.upd
    refine ⟨fd, _, rfl, dput_z fFA (by rw [w0.len]; omega), ?_⟩
    have hF : (upd GA fd (.dK (putK k0 (.inl ((b1 : Nat) : Int)) (.ref tn)))) fd = some (.dK (putK k0 (.inl ((b1 : Nat) : Int)) (.ref tn))) := upd_same
    have wR : WR K (upd GA fd (.dK (putK k0 (.inl ((b1 : Nat) : Int)) (.ref tn)))) (wput ws b1 ((wv ws b1).1 + 1, (wv ws b1).2)) (putK k0 (.inl ((b1 : Nat) : Int)) (.ref tn)) := (wFA.stay fun y ys s => hBp.tup fFA y ys s).put (hBp.tup fFA _ _ fnew)
    have SG : Same H (upd GA fd (.dK (putK k0 (.inl ((b1 : Nat) : Int)) (.ref tn)))) := fun c o e => hBp c o (ne_of_none e kfd) (SA c o e)
    have ub : Wb (2 ^ 203) (wput ws b1 ((wv ws b1).1 + 1, (wv ws b1).2)) := (zw.toWb.up (by decide)).put ⟨by have := a1.1; show ((wv ws b1).1 + 1).natAbs < 2 ^ 203; omega, Nat.lt_trans a1.2 (by decide)⟩
    have ul : (wput ws b1 ((wv ws b1).1 + 1, (wv ws b1).2)).length ≤ 31 := by have := wput_le ws b1 ((wv ws b1).1 + 1, (wv ws b1).2); omega
    generalize upd GA fd (.dK (putK k0 (.inl ((b1 : Nat) : Int)) (.ref tn))) = GB at hF wR SG ⊢
    generalize putK k0 (.inl ((b1 : Nat) : Int)) (.ref tn) = kB at hF wR ⊢
    generalize wput ws b1 ((wv ws b1).1 + 1, (wv ws b1).2) = uB at wR ub ul ⊢
    fail "kw"
    have wz1 := wR.kints
    have ndk : (kz uB).Nodup := kz_nodup ub.nd
    fail "go"
    refine st_cqE ?_
    fail "go"
    refine ⟨rfl, fd, _, _, rfl, .inl hF, wz1, by rw [kz_len]; omega, fun pl msr kpl pmr => ?_⟩
    have nl := same_new kpl (.lst (msr.map V.int))
    have fl : (upd GB pl (.lst (msr.map V.int))) pl = some (.lst (msr.map V.int)) := upd_same
    have hFl := nl _ _ hF
    have wRl := wR.stay (K := K) (H' := upd GB pl (.lst (msr.map V.int))) fun y ys s => nl.tup s
    have SGl := SG.trans nl
    have ndm : msr.Nodup := pmr.nodup_iff.mpr ndk
    have lmr : msr.length = uB.length := by rw [pmr.length_eq, kz_len]
    generalize upd GB pl (.lst (msr.map V.int)) = GL at nl fl hFl wRl SGl ⊢
    refine st_cqAt (SqL.of fl) (fun i ys H' => ∃ (as : List Addr) (kv2 : List (Key × V)) (vs2 : Wh), Same GL H' ∧ ys = as.map V.ref ∧ PairsAt K H' as kv2 ∧ WR K H' vs2 kv2 ∧ vs2.length ≤ i ∧ Wz (2 ^ 203) vs2 ∧ ∀ e ∈ vs2, ((e.1 : Nat) : Int) ∈ msr.take i) (by rw [List.length_map]; omega) ⟨[], [], [], Same.refl _, rfl, .nil, .nil, Nat.le_refl _, ⟨⟨by simp, fun _ z => nomatch z⟩, fun _ z => nomatch z⟩, fun _ z => nomatch z⟩ ?_ ?_ ?_ ?_
    · rintro i ys H' ⟨as, kv2, vs2, _, rfl, hp, hw, hl, _⟩
      have e := hp.length
      have e2 := hw.len
      rw [List.length_map]
      omega
    · rintro i ys H' ⟨as, kv2, vs2, s, _⟩
      exact SqL.of (s _ _ fl)
    · rintro i x ys H' hx ⟨as, kv2, vs2, sG, rfl, hp, hw, hl, zv, hin⟩
      rw [List.getElem?_map] at hx
      obtain ⟨y, ey, rfl⟩ : ∃ y, msr[i]? = some y ∧ x = .int y := by
        cases e : msr[i]? with
        | none => rw [e] at hx; cases hx
        | some y => rw [e] at hx; exact ⟨y, rfl, (Option.some.inj hx).symm⟩
      obtain ⟨c, hc, rfl⟩ := kz_mem.mp (pmr.mem_iff.mp (List.mem_of_getElem? ey))
      have hil : i < msr.length := (List.getElem?_eq_some_iff.mp ey).1
      have wRx := wRl.stay (K := K) (H' := H') fun y ys s => sG.tup s
      obtain ⟨t5, d5, s5⟩ := wRx.dget (.inl (sG _ _ hFl)) hc
      fail "go"
      refine ⟨fd, _, rfl, d5, ?_⟩
      fail "go"
      rename_i z5 k5
      have n5 := same_new k5 (.tup [.int 0, .int 0])
      have s5' := n5.tup s5
      have hF5 := n5 _ _ (sG _ _ hFl)
      have wR5 := wRx.stay (K := K) (H' := upd H' z5 (.tup [.int 0, .int 0])) fun y ys s => n5.tup s
      generalize upd H' z5 (.tup [.int 0, .int 0]) = G5 at n5 s5' hF5 wR5 ⊢
      have tk : ∀ e ∈ vs2, ((e.1 : Nat) : Int) ∈ msr.take (i + 1) := fun e he => by
        rw [take_succV ey]
        exact List.mem_append_left _ (hin e he)
      refine iteN (fun c0 => ?_) (fun c0 => ?_)
      · have hne : wv uB c ≠ (0, 0) := fun z => c0 (by rw [z])
        fail "go"
        obtain ⟨t6, d6, s6⟩ := wR5.dget (.inl hF5) hc
        refine ⟨fd, _, rfl, d6, ?_⟩
        fail "go"
        rename_i t7 k7
        have n7 := same_new k7 (.tup [.int ((c : Nat) : Int), .ref t6])
        have f7 : SqT K (upd G5 t7 (.tup [.int ((c : Nat) : Int), .ref t6])) t7 [kV (.inl ((c : Nat) : Int)), .ref t6] := SqT.of upd_same
        have s7 := n7.tup s6
        have n57 := n5.trans n7
        generalize upd G5 t7 (.tup [.int ((c : Nat) : Int), .ref t6]) = G7 at n7 f7 s7 n57 ⊢
        refine ⟨as ++ [t7], kv2 ++ [(.inl ((c : Nat) : Int), .ref t6)], vs2 ++ [(c, wv uB c)], sG.trans n57, by rw [List.map_append]; rfl, Paired.snoc (pr_map (fun a kv h => n57.tup h) hp) f7, (hw.stay fun y ys s => n57.tup s).snoc (b := c) (p := wv uB c) s7, by rw [List.length_append]; show _ + 1 ≤ _; omega, zv.snoc (fun z => ?_) (ub.at hc) hne, fun e he => ?_⟩
        · obtain ⟨e, he, e9⟩ := List.mem_map.mp z
          have h9 := hin e he
          rw [show ((e.1 : Nat) : Int) = ((c : Nat) : Int) by rw [e9]] at h9
          have nd2 : (msr.take (i + 1)).Nodup := List.Sublist.nodup (List.take_sublist _ _) ndm
          rw [take_succV ey, List.nodup_append] at nd2
          exact nd2.2.2 _ h9 _ List.mem_cons_self rfl
        · rcases List.mem_append.mp he with z | z
          · exact tk e z
          · rw [List.mem_singleton.mp z, take_succV ey]
            exact List.mem_append_right _ List.mem_cons_self
      · exact ⟨as, kv2, vs2, sG.trans n5, rfl, pr_map (fun a kv h => n5.tup h) hp, hw.stay fun y ys s => n5.tup s, by omega, zv, tk⟩
    · rintro ys H' ⟨as, kv2, vs2, sG, rfl, hp, hw, hl, zv, hin⟩ p1 kp1
      rw [List.length_map] at hl
      fail "go"
      have n1' := same_new kp1 (.lst (as.map V.ref))
      have fp : (upd H' p1 (.lst (as.map V.ref))) p1 = some (.lst (as.map V.ref)) := upd_same
      have hp2 := pr_map (G := fun b (kv : Key × V) => SqT K (upd H' p1 (.lst (as.map V.ref))) b [kV kv.1, kv.2]) (fun b kv h => n1'.tup h) hp
      have hw2 := hw.stay (K := K) (H' := upd H' p1 (.lst (as.map V.ref))) fun y ys s => n1'.tup s
      have SE := (SGl.trans sG).trans n1'
      generalize upd H' p1 (.lst (as.map V.ref)) = GE at n1' fp hp2 hw2 SE ⊢
      have hln := hw.len
      refine ⟨p1, as, kv2, rfl, fp, by omega, hp2, by rw [hw2.keys]; exact keys_nodup zv.nd, fun q2 kq2 => ?_⟩
      exact q q2 _ vs2 (SE.trans (same_new kq2 _)) (SE.free kq2) ⟨kv2, upd_same, hw2.stay fun y ys s => (same_new kq2 _).tup s⟩ zv (by omega)
  | 1, _ =>
    fail "kw"
    rename_i tn ktn
    have nA := same_new ktn (.tup [.int (0 - (wv ws b1).2), .int ((wv ws b1).1)])
    have fnew : SqT K (upd G2 tn (.tup [.int (0 - (wv ws b1).2), .int ((wv ws b1).1)])) tn [.int (0 - (wv ws b1).2), .int ((wv ws b1).1)] := SqT.of upd_same
    have fFA := nA _ _ fF2
    have wFA := wF2.stay (K := K) (H' := upd G2 tn (.tup [.int (0 - (wv ws b1).2), .int ((wv ws b1).1)])) fun y ys s => nA.tup s
    have SA := S2.trans nA
    generalize upd G2 tn (.tup [.int (0 - (wv ws b1).2), .int ((wv ws b1).1)]) = GA at nA fnew fFA wFA SA ⊢
    have hBp : But fd GA (upd GA fd (.dK (putK k0 (.inl ((b1 : Nat) : Int)) (.ref tn)))) := But.upd
    refine ⟨fd, _, rfl, dput_z fFA (by rw [w0.len]; omega), ?_⟩
    have hF : (upd GA fd (.dK (putK k0 (.inl ((b1 : Nat) : Int)) (.ref tn)))) fd = some (.dK (putK k0 (.inl ((b1 : Nat) : Int)) (.ref tn))) := upd_same
    have wR : WR K (upd GA fd (.dK (putK k0 (.inl ((b1 : Nat) : Int)) (.ref tn)))) (wput ws b1 (0 - (wv ws b1).2, (wv ws b1).1)) (putK k0 (.inl ((b1 : Nat) : Int)) (.ref tn)) := (wFA.stay fun y ys s => hBp.tup fFA y ys s).put (hBp.tup fFA _ _ fnew)
    have SG : Same H (upd GA fd (.dK (putK k0 (.inl ((b1 : Nat) : Int)) (.ref tn)))) := fun c o e => hBp c o (ne_of_none e kfd) (SA c o e)
    have ub : Wb (2 ^ 203) (wput ws b1 (0 - (wv ws b1).2, (wv ws b1).1)) := (zw.toWb.up (by decide)).put ⟨by have := a1.2; show (0 - (wv ws b1).2).natAbs < 2 ^ 203; omega, Nat.lt_trans a1.1 (by decide)⟩
    have ul : (wput ws b1 (0 - (wv ws b1).2, (wv ws b1).1)).length ≤ 31 := by have := wput_le ws b1 (0 - (wv ws b1).2, (wv ws b1).1); omega
    generalize upd GA fd (.dK (putK k0 (.inl ((b1 : Nat) : Int)) (.ref tn))) = GB at hF wR SG ⊢
    generalize putK k0 (.inl ((b1 : Nat) : Int)) (.ref tn) = kB at hF wR ⊢
    generalize wput ws b1 (0 - (wv ws b1).2, (wv ws b1).1) = uB at wR ub ul ⊢
    fail "kw"
    have wz1 := wR.kints
    have ndk : (kz uB).Nodup := kz_nodup ub.nd
    fail "go"
    refine st_cqE ?_
    fail "go"
    refine ⟨rfl, fd, _, _, rfl, .inl hF, wz1, by rw [kz_len]; omega, fun pl msr kpl pmr => ?_⟩
    have nl := same_new kpl (.lst (msr.map V.int))
    have fl : (upd GB pl (.lst (msr.map V.int))) pl = some (.lst (msr.map V.int)) := upd_same
    have hFl := nl _ _ hF
    have wRl := wR.stay (K := K) (H' := upd GB pl (.lst (msr.map V.int))) fun y ys s => nl.tup s
    have SGl := SG.trans nl
    have ndm : msr.Nodup := pmr.nodup_iff.mpr ndk
    have lmr : msr.length = uB.length := by rw [pmr.length_eq, kz_len]
    generalize upd GB pl (.lst (msr.map V.int)) = GL at nl fl hFl wRl SGl ⊢
    refine st_cqAt (SqL.of fl) (fun i ys H' => ∃ (as : List Addr) (kv2 : List (Key × V)) (vs2 : Wh), Same GL H' ∧ ys = as.map V.ref ∧ PairsAt K H' as kv2 ∧ WR K H' vs2 kv2 ∧ vs2.length ≤ i ∧ Wz (2 ^ 203) vs2 ∧ ∀ e ∈ vs2, ((e.1 : Nat) : Int) ∈ msr.take i) (by rw [List.length_map]; omega) ⟨[], [], [], Same.refl _, rfl, .nil, .nil, Nat.le_refl _, ⟨⟨by simp, fun _ z => nomatch z⟩, fun _ z => nomatch z⟩, fun _ z => nomatch z⟩ ?_ ?_ ?_ ?_
    · rintro i ys H' ⟨as, kv2, vs2, _, rfl, hp, hw, hl, _⟩
      have e := hp.length
      have e2 := hw.len
      rw [List.length_map]
      omega
    · rintro i ys H' ⟨as, kv2, vs2, s, _⟩
      exact SqL.of (s _ _ fl)
    · rintro i x ys H' hx ⟨as, kv2, vs2, sG, rfl, hp, hw, hl, zv, hin⟩
      rw [List.getElem?_map] at hx
      obtain ⟨y, ey, rfl⟩ : ∃ y, msr[i]? = some y ∧ x = .int y := by
        cases e : msr[i]? with
        | none => rw [e] at hx; cases hx
        | some y => rw [e] at hx; exact ⟨y, rfl, (Option.some.inj hx).symm⟩
      obtain ⟨c, hc, rfl⟩ := kz_mem.mp (pmr.mem_iff.mp (List.mem_of_getElem? ey))
      have hil : i < msr.length := (List.getElem?_eq_some_iff.mp ey).1
      have wRx := wRl.stay (K := K) (H' := H') fun y ys s => sG.tup s
      obtain ⟨t5, d5, s5⟩ := wRx.dget (.inl (sG _ _ hFl)) hc
      fail "go"
      refine ⟨fd, _, rfl, d5, ?_⟩
      fail "go"
      rename_i z5 k5
      have n5 := same_new k5 (.tup [.int 0, .int 0])
      have s5' := n5.tup s5
      have hF5 := n5 _ _ (sG _ _ hFl)
      have wR5 := wRx.stay (K := K) (H' := upd H' z5 (.tup [.int 0, .int 0])) fun y ys s => n5.tup s
      generalize upd H' z5 (.tup [.int 0, .int 0]) = G5 at n5 s5' hF5 wR5 ⊢
      have tk : ∀ e ∈ vs2, ((e.1 : Nat) : Int) ∈ msr.take (i + 1) := fun e he => by
        rw [take_succV ey]
        exact List.mem_append_left _ (hin e he)
      refine iteN (fun c0 => ?_) (fun c0 => ?_)
      · have hne : wv uB c ≠ (0, 0) := fun z => c0 (by rw [z])
        fail "go"
        obtain ⟨t6, d6, s6⟩ := wR5.dget (.inl hF5) hc
        refine ⟨fd, _, rfl, d6, ?_⟩
        fail "go"
        rename_i t7 k7
        have n7 := same_new k7 (.tup [.int ((c : Nat) : Int), .ref t6])
        have f7 : SqT K (upd G5 t7 (.tup [.int ((c : Nat) : Int), .ref t6])) t7 [kV (.inl ((c : Nat) : Int)), .ref t6] := SqT.of upd_same
        have s7 := n7.tup s6
        have n57 := n5.trans n7
        generalize upd G5 t7 (.tup [.int ((c : Nat) : Int), .ref t6]) = G7 at n7 f7 s7 n57 ⊢
        refine ⟨as ++ [t7], kv2 ++ [(.inl ((c : Nat) : Int), .ref t6)], vs2 ++ [(c, wv uB c)], sG.trans n57, by rw [List.map_append]; rfl, Paired.snoc (pr_map (fun a kv h => n57.tup h) hp) f7, (hw.stay fun y ys s => n57.tup s).snoc (b := c) (p := wv uB c) s7, by rw [List.length_append]; show _ + 1 ≤ _; omega, zv.snoc (fun z => ?_) (ub.at hc) hne, fun e he => ?_⟩
        · obtain ⟨e, he, e9⟩ := List.mem_map.mp z
          have h9 := hin e he
          rw [show ((e.1 : Nat) : Int) = ((c : Nat) : Int) by rw [e9]] at h9
          have nd2 : (msr.take (i + 1)).Nodup := List.Sublist.nodup (List.take_sublist _ _) ndm
          rw [take_succV ey, List.nodup_append] at nd2
          exact nd2.2.2 _ h9 _ List.mem_cons_self rfl
        · rcases List.mem_append.mp he with z | z
          · exact tk e z
          · rw [List.mem_singleton.mp z, take_succV ey]
            exact List.mem_append_right _ List.mem_cons_self
      · exact ⟨as, kv2, vs2, sG.trans n5, rfl, pr_map (fun a kv h => n5.tup h) hp, hw.stay fun y ys s => n5.tup s, by omega, zv, tk⟩
    · rintro ys H' ⟨as, kv2, vs2, sG, rfl, hp, hw, hl, zv, hin⟩ p1 kp1
      rw [List.length_map] at hl
      fail "go"
      have n1' := same_new kp1 (.lst (as.map V.ref))
      have fp : (upd H' p1 (.lst (as.map V.ref))) p1 = some (.lst (as.map V.ref)) := upd_same
      have hp2 := pr_map (G := fun b (kv : Key × V) => SqT K (upd H' p1 (.lst (as.map V.ref))) b [kV kv.1, kv.2]) (fun b kv h => n1'.tup h) hp
      have hw2 := hw.stay (K := K) (H' := upd H' p1 (.lst (as.map V.ref))) fun y ys s => n1'.tup s
      have SE := (SGl.trans sG).trans n1'
      generalize upd H' p1 (.lst (as.map V.ref)) = GE at n1' fp hp2 hw2 SE ⊢
      have hln := hw.len
      refine ⟨p1, as, kv2, rfl, fp, by omega, hp2, by rw [hw2.keys]; exact keys_nodup zv.nd, fun q2 kq2 => ?_⟩
      exact q q2 _ vs2 (SE.trans (same_new kq2 _)) (SE.free kq2) ⟨kv2, upd_same, hw2.stay fun y ys s => (same_new kq2 _).tup s⟩ zv (by omega)
  | 2, _ =>
    fail "kw"
    refine ⟨fd, k0, rfl, fF2, ?_⟩
    fail "go"
    refine iteD (fun c => ?_) (fun c => ?_)
    · fail "go"
      refine ⟨fd, rfl, .inl ⟨k0, .inl fF2⟩, ?_⟩
      fail "go"
      obtain ⟨t9, e9, _⟩ := wF2.here hb1
      refine ⟨k0, .inl ((b1 : Nat) : Int), .ref t9, fF2, rfl, e9, ?_⟩
      have hBp : But fd G2 (upd G2 fd (.dK (dropK k0 (.inl ((b1 : Nat) : Int))))) := But.upd
      have hF : (upd G2 fd (.dK (dropK k0 (.inl ((b1 : Nat) : Int))))) fd = some (.dK (dropK k0 (.inl ((b1 : Nat) : Int)))) := upd_same
      have wR : WR K (upd G2 fd (.dK (dropK k0 (.inl ((b1 : Nat) : Int))))) (wdrop ws b1) (dropK k0 (.inl ((b1 : Nat) : Int))) := (wF2.stay fun y ys s => hBp.tup fF2 y ys s).drop b1
      have SG : Same H (upd G2 fd (.dK (dropK k0 (.inl ((b1 : Nat) : Int))))) := fun c o e => hBp c o (ne_of_none e kfd) (S2 c o e)
      have ub : Wb (2 ^ 203) (wdrop ws b1) := (zw.toWb.up (by decide)).drop b1
      have ul : (wdrop ws b1).length ≤ 31 := by have := wdrop_len ws b1; omega
      generalize upd G2 fd (.dK (dropK k0 (.inl ((b1 : Nat) : Int)))) = GB at hF wR SG ⊢
      generalize dropK k0 (.inl ((b1 : Nat) : Int)) = kB at hF wR ⊢
      generalize wdrop ws b1 = uB at wR ub ul ⊢
      fail "kw"
      have wz1 := wR.kints
      have ndk : (kz uB).Nodup := kz_nodup ub.nd
      fail "go"
      refine st_cqE ?_
      fail "go"
      refine ⟨rfl, fd, _, _, rfl, .inl hF, wz1, by rw [kz_len]; omega, fun pl msr kpl pmr => ?_⟩
      have nl := same_new kpl (.lst (msr.map V.int))
      have fl : (upd GB pl (.lst (msr.map V.int))) pl = some (.lst (msr.map V.int)) := upd_same
      have hFl := nl _ _ hF
      have wRl := wR.stay (K := K) (H' := upd GB pl (.lst (msr.map V.int))) fun y ys s => nl.tup s
      have SGl := SG.trans nl
      have ndm : msr.Nodup := pmr.nodup_iff.mpr ndk
      have lmr : msr.length = uB.length := by rw [pmr.length_eq, kz_len]
      generalize upd GB pl (.lst (msr.map V.int)) = GL at nl fl hFl wRl SGl ⊢
      refine st_cqAt (SqL.of fl) (fun i ys H' => ∃ (as : List Addr) (kv2 : List (Key × V)) (vs2 : Wh), Same GL H' ∧ ys = as.map V.ref ∧ PairsAt K H' as kv2 ∧ WR K H' vs2 kv2 ∧ vs2.length ≤ i ∧ Wz (2 ^ 203) vs2 ∧ ∀ e ∈ vs2, ((e.1 : Nat) : Int) ∈ msr.take i) (by rw [List.length_map]; omega) ⟨[], [], [], Same.refl _, rfl, .nil, .nil, Nat.le_refl _, ⟨⟨by simp, fun _ z => nomatch z⟩, fun _ z => nomatch z⟩, fun _ z => nomatch z⟩ ?_ ?_ ?_ ?_
      · rintro i ys H' ⟨as, kv2, vs2, _, rfl, hp, hw, hl, _⟩
        have e := hp.length
        have e2 := hw.len
        rw [List.length_map]
        omega
      · rintro i ys H' ⟨as, kv2, vs2, s, _⟩
        exact SqL.of (s _ _ fl)
      · rintro i x ys H' hx ⟨as, kv2, vs2, sG, rfl, hp, hw, hl, zv, hin⟩
        rw [List.getElem?_map] at hx
        obtain ⟨y, ey, rfl⟩ : ∃ y, msr[i]? = some y ∧ x = .int y := by
          cases e : msr[i]? with
          | none => rw [e] at hx; cases hx
          | some y => rw [e] at hx; exact ⟨y, rfl, (Option.some.inj hx).symm⟩
        obtain ⟨c, hc, rfl⟩ := kz_mem.mp (pmr.mem_iff.mp (List.mem_of_getElem? ey))
        have hil : i < msr.length := (List.getElem?_eq_some_iff.mp ey).1
        have wRx := wRl.stay (K := K) (H' := H') fun y ys s => sG.tup s
        obtain ⟨t5, d5, s5⟩ := wRx.dget (.inl (sG _ _ hFl)) hc
        fail "go"
        refine ⟨fd, _, rfl, d5, ?_⟩
        fail "go"
        rename_i z5 k5
        have n5 := same_new k5 (.tup [.int 0, .int 0])
        have s5' := n5.tup s5
        have hF5 := n5 _ _ (sG _ _ hFl)
        have wR5 := wRx.stay (K := K) (H' := upd H' z5 (.tup [.int 0, .int 0])) fun y ys s => n5.tup s
        generalize upd H' z5 (.tup [.int 0, .int 0]) = G5 at n5 s5' hF5 wR5 ⊢
        have tk : ∀ e ∈ vs2, ((e.1 : Nat) : Int) ∈ msr.take (i + 1) := fun e he => by
          rw [take_succV ey]
          exact List.mem_append_left _ (hin e he)
        refine iteN (fun c0 => ?_) (fun c0 => ?_)
        · have hne : wv uB c ≠ (0, 0) := fun z => c0 (by rw [z])
          fail "go"
          obtain ⟨t6, d6, s6⟩ := wR5.dget (.inl hF5) hc
          refine ⟨fd, _, rfl, d6, ?_⟩
          fail "go"
          rename_i t7 k7
          have n7 := same_new k7 (.tup [.int ((c : Nat) : Int), .ref t6])
          have f7 : SqT K (upd G5 t7 (.tup [.int ((c : Nat) : Int), .ref t6])) t7 [kV (.inl ((c : Nat) : Int)), .ref t6] := SqT.of upd_same
          have s7 := n7.tup s6
          have n57 := n5.trans n7
          generalize upd G5 t7 (.tup [.int ((c : Nat) : Int), .ref t6]) = G7 at n7 f7 s7 n57 ⊢
          refine ⟨as ++ [t7], kv2 ++ [(.inl ((c : Nat) : Int), .ref t6)], vs2 ++ [(c, wv uB c)], sG.trans n57, by rw [List.map_append]; rfl, Paired.snoc (pr_map (fun a kv h => n57.tup h) hp) f7, (hw.stay fun y ys s => n57.tup s).snoc (b := c) (p := wv uB c) s7, by rw [List.length_append]; show _ + 1 ≤ _; omega, zv.snoc (fun z => ?_) (ub.at hc) hne, fun e he => ?_⟩
          · obtain ⟨e, he, e9⟩ := List.mem_map.mp z
            have h9 := hin e he
            rw [show ((e.1 : Nat) : Int) = ((c : Nat) : Int) by rw [e9]] at h9
            have nd2 : (msr.take (i + 1)).Nodup := List.Sublist.nodup (List.take_sublist _ _) ndm
            rw [take_succV ey, List.nodup_append] at nd2
            exact nd2.2.2 _ h9 _ List.mem_cons_self rfl
          · rcases List.mem_append.mp he with z | z
            · exact tk e z
            · rw [List.mem_singleton.mp z, take_succV ey]
              exact List.mem_append_right _ List.mem_cons_self
        · exact ⟨as, kv2, vs2, sG.trans n5, rfl, pr_map (fun a kv h => n5.tup h) hp, hw.stay fun y ys s => n5.tup s, by omega, zv, tk⟩
      · rintro ys H' ⟨as, kv2, vs2, sG, rfl, hp, hw, hl, zv, hin⟩ p1 kp1
        rw [List.length_map] at hl
        fail "go"
        have n1' := same_new kp1 (.lst (as.map V.ref))
        have fp : (upd H' p1 (.lst (as.map V.ref))) p1 = some (.lst (as.map V.ref)) := upd_same
        have hp2 := pr_map (G := fun b (kv : Key × V) => SqT K (upd H' p1 (.lst (as.map V.ref))) b [kV kv.1, kv.2]) (fun b kv h => n1'.tup h) hp
        have hw2 := hw.stay (K := K) (H' := upd H' p1 (.lst (as.map V.ref))) fun y ys s => n1'.tup s
        have SE := (SGl.trans sG).trans n1'
        generalize upd H' p1 (.lst (as.map V.ref)) = GE at n1' fp hp2 hw2 SE ⊢
        have hln := hw.len
        refine ⟨p1, as, kv2, rfl, fp, by omega, hp2, by rw [hw2.keys]; exact keys_nodup zv.nd, fun q2 kq2 => ?_⟩
        exact q q2 _ vs2 (SE.trans (same_new kq2 _)) (SE.free kq2) ⟨kv2, upd_same, hw2.stay fun y ys s => (same_new kq2 _).tup s⟩ zv (by omega)
    · have hF := fF2
      have wR := wF2
      have SG := S2
      have ub : Wb (2 ^ 203) ws := zw.toWb.up (by decide)
      have ul : ws.length ≤ 31 := by omega
      fail "kw"
      have wz1 := wR.kints
      have ndk : (kz ws).Nodup := kz_nodup ub.nd
      fail "go"
      refine st_cqE ?_
      fail "go"
      refine ⟨rfl, fd, _, _, rfl, .inl hF, wz1, by rw [kz_len]; omega, fun pl msr kpl pmr => ?_⟩
      have nl := same_new kpl (.lst (msr.map V.int))
      have fl : (upd G2 pl (.lst (msr.map V.int))) pl = some (.lst (msr.map V.int)) := upd_same
      have hFl := nl _ _ hF
      have wRl := wR.stay (K := K) (H' := upd G2 pl (.lst (msr.map V.int))) fun y ys s => nl.tup s
      have SGl := SG.trans nl
      have ndm : msr.Nodup := pmr.nodup_iff.mpr ndk
      have lmr : msr.length = ws.length := by rw [pmr.length_eq, kz_len]
      generalize upd G2 pl (.lst (msr.map V.int)) = GL at nl fl hFl wRl SGl ⊢
      refine st_cqAt (SqL.of fl) (fun i ys H' => ∃ (as : List Addr) (kv2 : List (Key × V)) (vs2 : Wh), Same GL H' ∧ ys = as.map V.ref ∧ PairsAt K H' as kv2 ∧ WR K H' vs2 kv2 ∧ vs2.length ≤ i ∧ Wz (2 ^ 203) vs2 ∧ ∀ e ∈ vs2, ((e.1 : Nat) : Int) ∈ msr.take i) (by rw [List.length_map]; omega) ⟨[], [], [], Same.refl _, rfl, .nil, .nil, Nat.le_refl _, ⟨⟨by simp, fun _ z => nomatch z⟩, fun _ z => nomatch z⟩, fun _ z => nomatch z⟩ ?_ ?_ ?_ ?_
      · rintro i ys H' ⟨as, kv2, vs2, _, rfl, hp, hw, hl, _⟩
        have e := hp.length
        have e2 := hw.len
        rw [List.length_map]
        omega
      · rintro i ys H' ⟨as, kv2, vs2, s, _⟩
        exact SqL.of (s _ _ fl)
      · rintro i x ys H' hx ⟨as, kv2, vs2, sG, rfl, hp, hw, hl, zv, hin⟩
        rw [List.getElem?_map] at hx
        obtain ⟨y, ey, rfl⟩ : ∃ y, msr[i]? = some y ∧ x = .int y := by
          cases e : msr[i]? with
          | none => rw [e] at hx; cases hx
          | some y => rw [e] at hx; exact ⟨y, rfl, (Option.some.inj hx).symm⟩
        obtain ⟨c, hc, rfl⟩ := kz_mem.mp (pmr.mem_iff.mp (List.mem_of_getElem? ey))
        have hil : i < msr.length := (List.getElem?_eq_some_iff.mp ey).1
        have wRx := wRl.stay (K := K) (H' := H') fun y ys s => sG.tup s
        obtain ⟨t5, d5, s5⟩ := wRx.dget (.inl (sG _ _ hFl)) hc
        fail "go"
        refine ⟨fd, _, rfl, d5, ?_⟩
        fail "go"
        rename_i z5 k5
        have n5 := same_new k5 (.tup [.int 0, .int 0])
        have s5' := n5.tup s5
        have hF5 := n5 _ _ (sG _ _ hFl)
        have wR5 := wRx.stay (K := K) (H' := upd H' z5 (.tup [.int 0, .int 0])) fun y ys s => n5.tup s
        generalize upd H' z5 (.tup [.int 0, .int 0]) = G5 at n5 s5' hF5 wR5 ⊢
        have tk : ∀ e ∈ vs2, ((e.1 : Nat) : Int) ∈ msr.take (i + 1) := fun e he => by
          rw [take_succV ey]
          exact List.mem_append_left _ (hin e he)
        refine iteN (fun c0 => ?_) (fun c0 => ?_)
        · have hne : wv ws c ≠ (0, 0) := fun z => c0 (by rw [z])
          fail "go"
          obtain ⟨t6, d6, s6⟩ := wR5.dget (.inl hF5) hc
          refine ⟨fd, _, rfl, d6, ?_⟩
          fail "go"
          rename_i t7 k7
          have n7 := same_new k7 (.tup [.int ((c : Nat) : Int), .ref t6])
          have f7 : SqT K (upd G5 t7 (.tup [.int ((c : Nat) : Int), .ref t6])) t7 [kV (.inl ((c : Nat) : Int)), .ref t6] := SqT.of upd_same
          have s7 := n7.tup s6
          have n57 := n5.trans n7
          generalize upd G5 t7 (.tup [.int ((c : Nat) : Int), .ref t6]) = G7 at n7 f7 s7 n57 ⊢
          refine ⟨as ++ [t7], kv2 ++ [(.inl ((c : Nat) : Int), .ref t6)], vs2 ++ [(c, wv ws c)], sG.trans n57, by rw [List.map_append]; rfl, Paired.snoc (pr_map (fun a kv h => n57.tup h) hp) f7, (hw.stay fun y ys s => n57.tup s).snoc (b := c) (p := wv ws c) s7, by rw [List.length_append]; show _ + 1 ≤ _; omega, zv.snoc (fun z => ?_) (ub.at hc) hne, fun e he => ?_⟩
          · obtain ⟨e, he, e9⟩ := List.mem_map.mp z
            have h9 := hin e he
            rw [show ((e.1 : Nat) : Int) = ((c : Nat) : Int) by rw [e9]] at h9
            have nd2 : (msr.take (i + 1)).Nodup := List.Sublist.nodup (List.take_sublist _ _) ndm
            rw [take_succV ey, List.nodup_append] at nd2
            exact nd2.2.2 _ h9 _ List.mem_cons_self rfl
          · rcases List.mem_append.mp he with z | z
            · exact tk e z
            · rw [List.mem_singleton.mp z, take_succV ey]
              exact List.mem_append_right _ List.mem_cons_self
        · exact ⟨as, kv2, vs2, sG.trans n5, rfl, pr_map (fun a kv h => n5.tup h) hp, hw.stay fun y ys s => n5.tup s, by omega, zv, tk⟩
      · rintro ys H' ⟨as, kv2, vs2, sG, rfl, hp, hw, hl, zv, hin⟩ p1 kp1
        rw [List.length_map] at hl
        fail "go"
        have n1' := same_new kp1 (.lst (as.map V.ref))
        have fp : (upd H' p1 (.lst (as.map V.ref))) p1 = some (.lst (as.map V.ref)) := upd_same
        have hp2 := pr_map (G := fun b (kv : Key × V) => SqT K (upd H' p1 (.lst (as.map V.ref))) b [kV kv.1, kv.2]) (fun b kv h => n1'.tup h) hp
        have hw2 := hw.stay (K := K) (H' := upd H' p1 (.lst (as.map V.ref))) fun y ys s => n1'.tup s
        have SE := (SGl.trans sG).trans n1'
        generalize upd H' p1 (.lst (as.map V.ref)) = GE at n1' fp hp2 hw2 SE ⊢
        have hln := hw.len
        refine ⟨p1, as, kv2, rfl, fp, by omega, hp2, by rw [hw2.keys]; exact keys_nodup zv.nd, fun q2 kq2 => ?_⟩
        exact q q2 _ vs2 (SE.trans (same_new kq2 _)) (SE.free kq2) ⟨kv2, upd_same, hw2.stay fun y ys s => (same_new kq2 _).tup s⟩ zv (by omega)
  | 3, _ =>
    fail "kw"
    rename_i tn ktn
    have nA := same_new ktn (.tup [.int (1), .int (1)])
    have fnew : SqT K (upd G2 tn (.tup [.int (1), .int (1)])) tn [.int (1), .int (1)] := SqT.of upd_same
    have fFA := nA _ _ fF2
    have wFA := wF2.stay (K := K) (H' := upd G2 tn (.tup [.int (1), .int (1)])) fun y ys s => nA.tup s
    have SA := S2.trans nA
    generalize upd G2 tn (.tup [.int (1), .int (1)]) = GA at nA fnew fFA wFA SA ⊢
    refine ⟨d, 53, rfl, by omega, fun m4 hm4 => ?_⟩
    obtain ⟨b3, e3, hb3⟩ := emod_nat ((m4 : Nat) : Int) (n := 64) (by decide)
    fail "go"
    rw [show ((m4 : Nat) : Int) % 64 = ((b3 : Nat) : Int) from e3]
    have hBp : But fd GA (upd GA fd (.dK (putK k0 (.inl ((b3 : Nat) : Int)) (.ref tn)))) := But.upd
    refine ⟨fd, _, rfl, dput_z fFA (by rw [w0.len]; omega), ?_⟩
    have hF : (upd GA fd (.dK (putK k0 (.inl ((b3 : Nat) : Int)) (.ref tn)))) fd = some (.dK (putK k0 (.inl ((b3 : Nat) : Int)) (.ref tn))) := upd_same
    have wR : WR K (upd GA fd (.dK (putK k0 (.inl ((b3 : Nat) : Int)) (.ref tn)))) (wput ws b3 (1, 1)) (putK k0 (.inl ((b3 : Nat) : Int)) (.ref tn)) := (wFA.stay fun y ys s => hBp.tup fFA y ys s).put (hBp.tup fFA _ _ fnew)
    have SG : Same H (upd GA fd (.dK (putK k0 (.inl ((b3 : Nat) : Int)) (.ref tn)))) := fun c o e => hBp c o (ne_of_none e kfd) (SA c o e)
    have ub : Wb (2 ^ 203) (wput ws b3 (1, 1)) := (zw.toWb.up (by decide)).put ⟨by decide, by decide⟩
    have ul : (wput ws b3 (1, 1)).length ≤ 31 := by have := wput_le ws b3 (1, 1); omega
    generalize upd GA fd (.dK (putK k0 (.inl ((b3 : Nat) : Int)) (.ref tn))) = GB at hF wR SG ⊢
    generalize putK k0 (.inl ((b3 : Nat) : Int)) (.ref tn) = kB at hF wR ⊢
    generalize wput ws b3 (1, 1) = uB at wR ub ul ⊢
    fail "kw"
    have wz1 := wR.kints
    have ndk : (kz uB).Nodup := kz_nodup ub.nd
    fail "go"
    refine st_cqE ?_
    fail "go"
    refine ⟨rfl, fd, _, _, rfl, .inl hF, wz1, by rw [kz_len]; omega, fun pl msr kpl pmr => ?_⟩
    have nl := same_new kpl (.lst (msr.map V.int))
    have fl : (upd GB pl (.lst (msr.map V.int))) pl = some (.lst (msr.map V.int)) := upd_same
    have hFl := nl _ _ hF
    have wRl := wR.stay (K := K) (H' := upd GB pl (.lst (msr.map V.int))) fun y ys s => nl.tup s
    have SGl := SG.trans nl
    have ndm : msr.Nodup := pmr.nodup_iff.mpr ndk
    have lmr : msr.length = uB.length := by rw [pmr.length_eq, kz_len]
    generalize upd GB pl (.lst (msr.map V.int)) = GL at nl fl hFl wRl SGl ⊢
    refine st_cqAt (SqL.of fl) (fun i ys H' => ∃ (as : List Addr) (kv2 : List (Key × V)) (vs2 : Wh), Same GL H' ∧ ys = as.map V.ref ∧ PairsAt K H' as kv2 ∧ WR K H' vs2 kv2 ∧ vs2.length ≤ i ∧ Wz (2 ^ 203) vs2 ∧ ∀ e ∈ vs2, ((e.1 : Nat) : Int) ∈ msr.take i) (by rw [List.length_map]; omega) ⟨[], [], [], Same.refl _, rfl, .nil, .nil, Nat.le_refl _, ⟨⟨by simp, fun _ z => nomatch z⟩, fun _ z => nomatch z⟩, fun _ z => nomatch z⟩ ?_ ?_ ?_ ?_
    · rintro i ys H' ⟨as, kv2, vs2, _, rfl, hp, hw, hl, _⟩
      have e := hp.length
      have e2 := hw.len
      rw [List.length_map]
      omega
    · rintro i ys H' ⟨as, kv2, vs2, s, _⟩
      exact SqL.of (s _ _ fl)
    · rintro i x ys H' hx ⟨as, kv2, vs2, sG, rfl, hp, hw, hl, zv, hin⟩
      rw [List.getElem?_map] at hx
      obtain ⟨y, ey, rfl⟩ : ∃ y, msr[i]? = some y ∧ x = .int y := by
        cases e : msr[i]? with
        | none => rw [e] at hx; cases hx
        | some y => rw [e] at hx; exact ⟨y, rfl, (Option.some.inj hx).symm⟩
      obtain ⟨c, hc, rfl⟩ := kz_mem.mp (pmr.mem_iff.mp (List.mem_of_getElem? ey))
      have hil : i < msr.length := (List.getElem?_eq_some_iff.mp ey).1
      have wRx := wRl.stay (K := K) (H' := H') fun y ys s => sG.tup s
      obtain ⟨t5, d5, s5⟩ := wRx.dget (.inl (sG _ _ hFl)) hc
      fail "go"
      refine ⟨fd, _, rfl, d5, ?_⟩
      fail "go"
      rename_i z5 k5
      have n5 := same_new k5 (.tup [.int 0, .int 0])
      have s5' := n5.tup s5
      have hF5 := n5 _ _ (sG _ _ hFl)
      have wR5 := wRx.stay (K := K) (H' := upd H' z5 (.tup [.int 0, .int 0])) fun y ys s => n5.tup s
      generalize upd H' z5 (.tup [.int 0, .int 0]) = G5 at n5 s5' hF5 wR5 ⊢
      have tk : ∀ e ∈ vs2, ((e.1 : Nat) : Int) ∈ msr.take (i + 1) := fun e he => by
        rw [take_succV ey]
        exact List.mem_append_left _ (hin e he)
      refine iteN (fun c0 => ?_) (fun c0 => ?_)
      · have hne : wv uB c ≠ (0, 0) := fun z => c0 (by rw [z])
        fail "go"
        obtain ⟨t6, d6, s6⟩ := wR5.dget (.inl hF5) hc
        refine ⟨fd, _, rfl, d6, ?_⟩
        fail "go"
        rename_i t7 k7
        have n7 := same_new k7 (.tup [.int ((c : Nat) : Int), .ref t6])
        have f7 : SqT K (upd G5 t7 (.tup [.int ((c : Nat) : Int), .ref t6])) t7 [kV (.inl ((c : Nat) : Int)), .ref t6] := SqT.of upd_same
        have s7 := n7.tup s6
        have n57 := n5.trans n7
        generalize upd G5 t7 (.tup [.int ((c : Nat) : Int), .ref t6]) = G7 at n7 f7 s7 n57 ⊢
        refine ⟨as ++ [t7], kv2 ++ [(.inl ((c : Nat) : Int), .ref t6)], vs2 ++ [(c, wv uB c)], sG.trans n57, by rw [List.map_append]; rfl, Paired.snoc (pr_map (fun a kv h => n57.tup h) hp) f7, (hw.stay fun y ys s => n57.tup s).snoc (b := c) (p := wv uB c) s7, by rw [List.length_append]; show _ + 1 ≤ _; omega, zv.snoc (fun z => ?_) (ub.at hc) hne, fun e he => ?_⟩
        · obtain ⟨e, he, e9⟩ := List.mem_map.mp z
          have h9 := hin e he
          rw [show ((e.1 : Nat) : Int) = ((c : Nat) : Int) by rw [e9]] at h9
          have nd2 : (msr.take (i + 1)).Nodup := List.Sublist.nodup (List.take_sublist _ _) ndm
          rw [take_succV ey, List.nodup_append] at nd2
          exact nd2.2.2 _ h9 _ List.mem_cons_self rfl
        · rcases List.mem_append.mp he with z | z
          · exact tk e z
          · rw [List.mem_singleton.mp z, take_succV ey]
            exact List.mem_append_right _ List.mem_cons_self
      · exact ⟨as, kv2, vs2, sG.trans n5, rfl, pr_map (fun a kv h => n5.tup h) hp, hw.stay fun y ys s => n5.tup s, by omega, zv, tk⟩
    · rintro ys H' ⟨as, kv2, vs2, sG, rfl, hp, hw, hl, zv, hin⟩ p1 kp1
      rw [List.length_map] at hl
      fail "go"
      have n1' := same_new kp1 (.lst (as.map V.ref))
      have fp : (upd H' p1 (.lst (as.map V.ref))) p1 = some (.lst (as.map V.ref)) := upd_same
      have hp2 := pr_map (G := fun b (kv : Key × V) => SqT K (upd H' p1 (.lst (as.map V.ref))) b [kV kv.1, kv.2]) (fun b kv h => n1'.tup h) hp
      have hw2 := hw.stay (K := K) (H' := upd H' p1 (.lst (as.map V.ref))) fun y ys s => n1'.tup s
      have SE := (SGl.trans sG).trans n1'
      generalize upd H' p1 (.lst (as.map V.ref)) = GE at n1' fp hp2 hw2 SE ⊢
      have hln := hw.len
      refine ⟨p1, as, kv2, rfl, fp, by omega, hp2, by rw [hw2.keys]; exact keys_nodup zv.nd, fun q2 kq2 => ?_⟩
      exact q q2 _ vs2 (SE.trans (same_new kq2 _)) (SE.free kq2) ⟨kv2, upd_same, hw2.stay fun y ys s => (same_new kq2 _).tup s⟩ zv (by omega)
  | 4, _ =>
    fail "kw"
    obtain ⟨t2, d2, s2⟩ := wF2.dget (.inl fF2) hb2
    refine ⟨fd, _, rfl, d2, ?_⟩
    fail "go"
    have hB1 : But fd G2 (upd G2 fd (.dK (putK k0 (.inl ((b1 : Nat) : Int)) (.ref t2)))) := But.upd
    refine ⟨fd, _, rfl, dput_z fF2 (by rw [w0.len]; omega), ?_⟩
    have h1F : (upd G2 fd (.dK (putK k0 (.inl ((b1 : Nat) : Int)) (.ref t2)))) fd = some (.dK (putK k0 (.inl ((b1 : Nat) : Int)) (.ref t2))) := upd_same
    have w1R : WR K (upd G2 fd (.dK (putK k0 (.inl ((b1 : Nat) : Int)) (.ref t2)))) (wput ws b1 (wv ws b2)) (putK k0 (.inl ((b1 : Nat) : Int)) (.ref t2)) := (wF2.stay fun y ys s => hB1.tup fF2 y ys s).put (hB1.tup fF2 _ _ s2)
    have s1' : SqT K (upd G2 fd (.dK (putK k0 (.inl ((b1 : Nat) : Int)) (.ref t2)))) t1 [.int (wv ws b1).1, .int (wv ws b1).2] := hB1.tup fF2 _ _ s1
    have SG1 : Same H (upd G2 fd (.dK (putK k0 (.inl ((b1 : Nat) : Int)) (.ref t2)))) := fun c o e => hB1 c o (ne_of_none e kfd) (S2 c o e)
    have ub1 : Wb (2 ^ 203) (wput ws b1 (wv ws b2)) := (zw.toWb.up (by decide)).put ⟨Nat.lt_trans a2.1 (by decide), Nat.lt_trans a2.2 (by decide)⟩
    have ul1 : (wput ws b1 (wv ws b2)).length ≤ 31 := by have := wput_le ws b1 (wv ws b2); omega
    generalize upd G2 fd (.dK (putK k0 (.inl ((b1 : Nat) : Int)) (.ref t2))) = GA at h1F w1R s1' SG1 ⊢
    generalize putK k0 (.inl ((b1 : Nat) : Int)) (.ref t2) = kA at h1F w1R ⊢
    generalize wput ws b1 (wv ws b2) = uA at w1R ub1 ul1 ⊢
    fail "go"
    have hB2 : But fd GA (upd GA fd (.dK (putK kA (.inl ((b2 : Nat) : Int)) (.ref t1)))) := But.upd
    refine ⟨fd, _, rfl, dput_z h1F (by rw [w1R.len]; omega), ?_⟩
    have hF : (upd GA fd (.dK (putK kA (.inl ((b2 : Nat) : Int)) (.ref t1)))) fd = some (.dK (putK kA (.inl ((b2 : Nat) : Int)) (.ref t1))) := upd_same
    have wR : WR K (upd GA fd (.dK (putK kA (.inl ((b2 : Nat) : Int)) (.ref t1)))) (wput uA b2 (wv ws b1)) (putK kA (.inl ((b2 : Nat) : Int)) (.ref t1)) := (w1R.stay fun y ys s => hB2.tup h1F y ys s).put (hB2.tup h1F _ _ s1')
    have SG : Same H (upd GA fd (.dK (putK kA (.inl ((b2 : Nat) : Int)) (.ref t1)))) := fun c o e => hB2 c o (ne_of_none e kfd) (SG1 c o e)
    have ub : Wb (2 ^ 203) (wput uA b2 (wv ws b1)) := ub1.put ⟨Nat.lt_trans a1.1 (by decide), Nat.lt_trans a1.2 (by decide)⟩
    have ul : (wput uA b2 (wv ws b1)).length ≤ 32 := by have := wput_le uA b2 (wv ws b1); omega
    generalize upd GA fd (.dK (putK kA (.inl ((b2 : Nat) : Int)) (.ref t1))) = GB at hF wR SG ⊢
    generalize putK kA (.inl ((b2 : Nat) : Int)) (.ref t1) = kB at hF wR ⊢
    generalize wput uA b2 (wv ws b1) = uB at wR ub ul ⊢
    fail "kw"
    have wz1 := wR.kints
    have ndk : (kz uB).Nodup := kz_nodup ub.nd
    fail "go"
    refine st_cqE ?_
    fail "go"
    refine ⟨rfl, fd, _, _, rfl, .inl hF, wz1, by rw [kz_len]; omega, fun pl msr kpl pmr => ?_⟩
    have nl := same_new kpl (.lst (msr.map V.int))
    have fl : (upd GB pl (.lst (msr.map V.int))) pl = some (.lst (msr.map V.int)) := upd_same
    have hFl := nl _ _ hF
    have wRl := wR.stay (K := K) (H' := upd GB pl (.lst (msr.map V.int))) fun y ys s => nl.tup s
    have SGl := SG.trans nl
    have ndm : msr.Nodup := pmr.nodup_iff.mpr ndk
    have lmr : msr.length = uB.length := by rw [pmr.length_eq, kz_len]
    generalize upd GB pl (.lst (msr.map V.int)) = GL at nl fl hFl wRl SGl ⊢
    refine st_cqAt (SqL.of fl) (fun i ys H' => ∃ (as : List Addr) (kv2 : List (Key × V)) (vs2 : Wh), Same GL H' ∧ ys = as.map V.ref ∧ PairsAt K H' as kv2 ∧ WR K H' vs2 kv2 ∧ vs2.length ≤ i ∧ Wz (2 ^ 203) vs2 ∧ ∀ e ∈ vs2, ((e.1 : Nat) : Int) ∈ msr.take i) (by rw [List.length_map]; omega) ⟨[], [], [], Same.refl _, rfl, .nil, .nil, Nat.le_refl _, ⟨⟨by simp, fun _ z => nomatch z⟩, fun _ z => nomatch z⟩, fun _ z => nomatch z⟩ ?_ ?_ ?_ ?_
    · rintro i ys H' ⟨as, kv2, vs2, _, rfl, hp, hw, hl, _⟩
      have e := hp.length
      have e2 := hw.len
      rw [List.length_map]
      omega
    · rintro i ys H' ⟨as, kv2, vs2, s, _⟩
      exact SqL.of (s _ _ fl)
    · rintro i x ys H' hx ⟨as, kv2, vs2, sG, rfl, hp, hw, hl, zv, hin⟩
      rw [List.getElem?_map] at hx
      obtain ⟨y, ey, rfl⟩ : ∃ y, msr[i]? = some y ∧ x = .int y := by
        cases e : msr[i]? with
        | none => rw [e] at hx; cases hx
        | some y => rw [e] at hx; exact ⟨y, rfl, (Option.some.inj hx).symm⟩
      obtain ⟨c, hc, rfl⟩ := kz_mem.mp (pmr.mem_iff.mp (List.mem_of_getElem? ey))
      have hil : i < msr.length := (List.getElem?_eq_some_iff.mp ey).1
      have wRx := wRl.stay (K := K) (H' := H') fun y ys s => sG.tup s
      obtain ⟨t5, d5, s5⟩ := wRx.dget (.inl (sG _ _ hFl)) hc
      fail "go"
      refine ⟨fd, _, rfl, d5, ?_⟩
      fail "go"
      rename_i z5 k5
      have n5 := same_new k5 (.tup [.int 0, .int 0])
      have s5' := n5.tup s5
      have hF5 := n5 _ _ (sG _ _ hFl)
      have wR5 := wRx.stay (K := K) (H' := upd H' z5 (.tup [.int 0, .int 0])) fun y ys s => n5.tup s
      generalize upd H' z5 (.tup [.int 0, .int 0]) = G5 at n5 s5' hF5 wR5 ⊢
      have tk : ∀ e ∈ vs2, ((e.1 : Nat) : Int) ∈ msr.take (i + 1) := fun e he => by
        rw [take_succV ey]
        exact List.mem_append_left _ (hin e he)
      refine iteN (fun c0 => ?_) (fun c0 => ?_)
      · have hne : wv uB c ≠ (0, 0) := fun z => c0 (by rw [z])
        fail "go"
        obtain ⟨t6, d6, s6⟩ := wR5.dget (.inl hF5) hc
        refine ⟨fd, _, rfl, d6, ?_⟩
        fail "go"
        rename_i t7 k7
        have n7 := same_new k7 (.tup [.int ((c : Nat) : Int), .ref t6])
        have f7 : SqT K (upd G5 t7 (.tup [.int ((c : Nat) : Int), .ref t6])) t7 [kV (.inl ((c : Nat) : Int)), .ref t6] := SqT.of upd_same
        have s7 := n7.tup s6
        have n57 := n5.trans n7
        generalize upd G5 t7 (.tup [.int ((c : Nat) : Int), .ref t6]) = G7 at n7 f7 s7 n57 ⊢
        refine ⟨as ++ [t7], kv2 ++ [(.inl ((c : Nat) : Int), .ref t6)], vs2 ++ [(c, wv uB c)], sG.trans n57, by rw [List.map_append]; rfl, Paired.snoc (pr_map (fun a kv h => n57.tup h) hp) f7, (hw.stay fun y ys s => n57.tup s).snoc (b := c) (p := wv uB c) s7, by rw [List.length_append]; show _ + 1 ≤ _; omega, zv.snoc (fun z => ?_) (ub.at hc) hne, fun e he => ?_⟩
        · obtain ⟨e, he, e9⟩ := List.mem_map.mp z
          have h9 := hin e he
          rw [show ((e.1 : Nat) : Int) = ((c : Nat) : Int) by rw [e9]] at h9
          have nd2 : (msr.take (i + 1)).Nodup := List.Sublist.nodup (List.take_sublist _ _) ndm
          rw [take_succV ey, List.nodup_append] at nd2
          exact nd2.2.2 _ h9 _ List.mem_cons_self rfl
        · rcases List.mem_append.mp he with z | z
          · exact tk e z
          · rw [List.mem_singleton.mp z, take_succV ey]
            exact List.mem_append_right _ List.mem_cons_self
      · exact ⟨as, kv2, vs2, sG.trans n5, rfl, pr_map (fun a kv h => n5.tup h) hp, hw.stay fun y ys s => n5.tup s, by omega, zv, tk⟩
    · rintro ys H' ⟨as, kv2, vs2, sG, rfl, hp, hw, hl, zv, hin⟩ p1 kp1
      rw [List.length_map] at hl
      fail "go"
      have n1' := same_new kp1 (.lst (as.map V.ref))
      have fp : (upd H' p1 (.lst (as.map V.ref))) p1 = some (.lst (as.map V.ref)) := upd_same
      have hp2 := pr_map (G := fun b (kv : Key × V) => SqT K (upd H' p1 (.lst (as.map V.ref))) b [kV kv.1, kv.2]) (fun b kv h => n1'.tup h) hp
      have hw2 := hw.stay (K := K) (H' := upd H' p1 (.lst (as.map V.ref))) fun y ys s => n1'.tup s
      have SE := (SGl.trans sG).trans n1'
      generalize upd H' p1 (.lst (as.map V.ref)) = GE at n1' fp hp2 hw2 SE ⊢
      have hln := hw.len
      refine ⟨p1, as, kv2, rfl, fp, by omega, hp2, by rw [hw2.keys]; exact keys_nodup zv.nd, fun q2 kq2 => ?_⟩
      exact q q2 _ vs2 (SE.trans (same_new kq2 _)) (SE.free kq2) ⟨kv2, upd_same, hw2.stay fun y ys s => (same_new kq2 _).tup s⟩ zv (by omega)
  | 5, _ =>
    fail "kw"
    refine st_comp_lst (fun P h => ⟨_, rfl, h⟩) sK (fun i ys H' => ∃ (as : List Addr) (kv2 : List (Key × V)) (vs2 : Wh), Same G2 H' ∧ ys = as.map V.ref ∧ PairsAt K H' as kv2 ∧ WR K H' vs2 kv2 ∧ vs2.length ≤ i ∧ Wb (2 ^ 203) vs2 ∧ ∀ e ∈ vs2, ∃ c : Nat, ((c : Nat) : Int) ∈ ms.take i ∧ e.1 = c ^^^ 1) (by omega) ⟨[], [], [], Same.refl _, rfl, .nil, .nil, Nat.le_refl _, ⟨by simp, fun _ z => nomatch z⟩, fun _ z => nomatch z⟩ ?_ ?_ ?_ ?_
    · rintro i ys H' ⟨as, kv2, vs2, _, rfl, hp, hw, hl, _⟩
      have e := hp.length
      have e2 := hw.len
      rw [List.length_map]
      omega
    · rintro i ys H' ⟨as, kv2, vs2, s, _⟩
      exact SqL.of (s _ _ fK)
    · rintro i x ys H' hx ⟨as, kv2, vs2, sG, rfl, hp, hw, hl, zv, hin⟩
      rw [List.getElem?_map] at hx
      obtain ⟨y, ey, rfl⟩ : ∃ y, ms[i]? = some y ∧ x = .int y := by
        cases e : ms[i]? with
        | none => rw [e] at hx; cases hx
        | some y => rw [e] at hx; exact ⟨y, rfl, (Option.some.inj hx).symm⟩
      obtain ⟨c, hc, rfl⟩ := kz_mem.mp (pm.mem_iff.mp (List.mem_of_getElem? ey))
      have wRx := wF2.stay (K := K) (H' := H') fun y ys s => sG.tup s
      obtain ⟨t5, d5, s5⟩ := wRx.dget (.inl (sG _ _ fF2)) hc
      have ex1 : Builtin.bitXor ((c : Nat) : Int) 1 = ((c ^^^ 1 : Nat) : Int) := bitXor_nat c 1
      fail "go"
      refine ⟨fd, _, rfl, d5, ?_⟩
      fail "go"
      first
      | rw [ex1]
      | skip
      rename_i t7 k7
      have n7 := same_new k7 (.tup [.int ((c ^^^ 1 : Nat) : Int), .ref t5])
      have f7 : SqT K (upd H' t7 (.tup [.int ((c ^^^ 1 : Nat) : Int), .ref t5])) t7 [kV (.inl ((c ^^^ 1 : Nat) : Int)), .ref t5] := SqT.of upd_same
      have s7 := n7.tup s5
      generalize upd H' t7 (.tup [.int ((c ^^^ 1 : Nat) : Int), .ref t5]) = G7 at n7 f7 s7 ⊢
      have ac := zw.at hc
      refine ⟨as ++ [t7], kv2 ++ [(.inl ((c ^^^ 1 : Nat) : Int), .ref t5)], vs2 ++ [(c ^^^ 1, wv ws c)], sG.trans n7, by rw [List.map_append]; rfl, Paired.snoc (pr_map (fun a kv h => n7.tup h) hp) f7, (hw.stay fun y ys s => n7.tup s).snoc (b := c ^^^ 1) (p := wv ws c) s7, by rw [List.length_append]; show _ + 1 ≤ _; omega, zv.snoc (fun z => ?_) ⟨Nat.lt_trans ac.1 (by decide), Nat.lt_trans ac.2 (by decide)⟩, fun e he => ?_⟩
      · obtain ⟨e, he, e9⟩ := List.mem_map.mp z
        obtain ⟨c', h9, e10⟩ := hin e he
        have ec : c' = c := xor_inj (e10.symm.trans e9)
        subst ec
        have nd2 : (ms.take (i + 1)).Nodup := List.Sublist.nodup (List.take_sublist _ _) ndm0
        rw [take_succV ey, List.nodup_append] at nd2
        exact nd2.2.2 _ h9 _ List.mem_cons_self rfl
      · rcases List.mem_append.mp he with z | z
        · obtain ⟨c', h9, e10⟩ := hin e z
          exact ⟨c', by rw [take_succV ey]; exact List.mem_append_left _ h9, e10⟩
        · rw [List.mem_singleton.mp z]
          exact ⟨c, by rw [take_succV ey]; exact List.mem_append_right _ List.mem_cons_self, rfl⟩
    · rintro ys H' ⟨as, kv2, uB, sG, rfl, hp, hw, hl, zv, hin⟩ p1 kp1
      rw [hmL] at hl
      fail "go"
      have n1' := same_new kp1 (.lst (as.map V.ref))
      have fp : (upd H' p1 (.lst (as.map V.ref))) p1 = some (.lst (as.map V.ref)) := upd_same
      have hp2 := pr_map (G := fun b (kv : Key × V) => SqT K (upd H' p1 (.lst (as.map V.ref))) b [kV kv.1, kv.2]) (fun b kv h => n1'.tup h) hp
      have hw2 := hw.stay (K := K) (H' := upd H' p1 (.lst (as.map V.ref))) fun y ys s => n1'.tup s
      have SE := (S2.trans sG).trans n1'
      generalize upd H' p1 (.lst (as.map V.ref)) = GE at n1' fp hp2 hw2 SE ⊢
      have hln := hw.len
      refine ⟨p1, as, kv2, rfl, fp, by omega, hp2, by rw [hw2.keys]; exact keys_nodup zv.nd, fun q3 kq3 => ?_⟩
      have hF : (upd GE q3 (.dK kv2)) q3 = some (.dK kv2) := upd_same
      have wR := hw2.stay (K := K) (H' := upd GE q3 (.dK kv2)) fun y ys s => (same_new kq3 _).tup s
      have SG : Same H (upd GE q3 (.dK kv2)) := SE.trans (same_new kq3 _)
      have ub := zv
      have ul : uB.length ≤ 31 := by omega
      clear hp2 hw2 hw hp hin
      generalize upd GE q3 (.dK kv2) = GB at hF wR SG ⊢
      fail "go"
      have wz1 := wR.kints
      have ndk : (kz uB).Nodup := kz_nodup ub.nd
      fail "go"
      refine st_cqE ?_
      fail "go"
      refine ⟨rfl, q3, _, _, rfl, .inl hF, wz1, by rw [kz_len]; omega, fun pl msr kpl pmr => ?_⟩
      have nl := same_new kpl (.lst (msr.map V.int))
      have fl : (upd GB pl (.lst (msr.map V.int))) pl = some (.lst (msr.map V.int)) := upd_same
      have hFl := nl _ _ hF
      have wRl := wR.stay (K := K) (H' := upd GB pl (.lst (msr.map V.int))) fun y ys s => nl.tup s
      have SGl := SG.trans nl
      have ndm : msr.Nodup := pmr.nodup_iff.mpr ndk
      have lmr : msr.length = uB.length := by rw [pmr.length_eq, kz_len]
      generalize upd GB pl (.lst (msr.map V.int)) = GL at nl fl hFl wRl SGl ⊢
      refine st_cqAt (SqL.of fl) (fun i ys H' => ∃ (as : List Addr) (kv2 : List (Key × V)) (vs2 : Wh), Same GL H' ∧ ys = as.map V.ref ∧ PairsAt K H' as kv2 ∧ WR K H' vs2 kv2 ∧ vs2.length ≤ i ∧ Wz (2 ^ 203) vs2 ∧ ∀ e ∈ vs2, ((e.1 : Nat) : Int) ∈ msr.take i) (by rw [List.length_map]; omega) ⟨[], [], [], Same.refl _, rfl, .nil, .nil, Nat.le_refl _, ⟨⟨by simp, fun _ z => nomatch z⟩, fun _ z => nomatch z⟩, fun _ z => nomatch z⟩ ?_ ?_ ?_ ?_
      · rintro i ys H' ⟨as, kv2, vs2, _, rfl, hp, hw, hl, _⟩
        have e := hp.length
        have e2 := hw.len
        rw [List.length_map]
        omega
      · rintro i ys H' ⟨as, kv2, vs2, s, _⟩
        exact SqL.of (s _ _ fl)
      · rintro i x ys H' hx ⟨as, kv2, vs2, sG, rfl, hp, hw, hl, zv, hin⟩
        rw [List.getElem?_map] at hx
        obtain ⟨y, ey, rfl⟩ : ∃ y, msr[i]? = some y ∧ x = .int y := by
          cases e : msr[i]? with
          | none => rw [e] at hx; cases hx
          | some y => rw [e] at hx; exact ⟨y, rfl, (Option.some.inj hx).symm⟩
        obtain ⟨c, hc, rfl⟩ := kz_mem.mp (pmr.mem_iff.mp (List.mem_of_getElem? ey))
        have hil : i < msr.length := (List.getElem?_eq_some_iff.mp ey).1
        have wRx := wRl.stay (K := K) (H' := H') fun y ys s => sG.tup s
        obtain ⟨t5, d5, s5⟩ := wRx.dget (.inl (sG _ _ hFl)) hc
        fail "go"
        refine ⟨q3, _, rfl, d5, ?_⟩
        fail "go"
        rename_i z5 k5
        have n5 := same_new k5 (.tup [.int 0, .int 0])
        have s5' := n5.tup s5
        have hF5 := n5 _ _ (sG _ _ hFl)
        have wR5 := wRx.stay (K := K) (H' := upd H' z5 (.tup [.int 0, .int 0])) fun y ys s => n5.tup s
        generalize upd H' z5 (.tup [.int 0, .int 0]) = G5 at n5 s5' hF5 wR5 ⊢
        have tk : ∀ e ∈ vs2, ((e.1 : Nat) : Int) ∈ msr.take (i + 1) := fun e he => by
          rw [take_succV ey]
          exact List.mem_append_left _ (hin e he)
        refine iteN (fun c0 => ?_) (fun c0 => ?_)
        · have hne : wv uB c ≠ (0, 0) := fun z => c0 (by rw [z])
          fail "go"
          obtain ⟨t6, d6, s6⟩ := wR5.dget (.inl hF5) hc
          refine ⟨q3, _, rfl, d6, ?_⟩
          fail "go"
          rename_i t7 k7
          have n7 := same_new k7 (.tup [.int ((c : Nat) : Int), .ref t6])
          have f7 : SqT K (upd G5 t7 (.tup [.int ((c : Nat) : Int), .ref t6])) t7 [kV (.inl ((c : Nat) : Int)), .ref t6] := SqT.of upd_same
          have s7 := n7.tup s6
          have n57 := n5.trans n7
          generalize upd G5 t7 (.tup [.int ((c : Nat) : Int), .ref t6]) = G7 at n7 f7 s7 n57 ⊢
          refine ⟨as ++ [t7], kv2 ++ [(.inl ((c : Nat) : Int), .ref t6)], vs2 ++ [(c, wv uB c)], sG.trans n57, by rw [List.map_append]; rfl, Paired.snoc (pr_map (fun a kv h => n57.tup h) hp) f7, (hw.stay fun y ys s => n57.tup s).snoc (b := c) (p := wv uB c) s7, by rw [List.length_append]; show _ + 1 ≤ _; omega, zv.snoc (fun z => ?_) (ub.at hc) hne, fun e he => ?_⟩
          · obtain ⟨e, he, e9⟩ := List.mem_map.mp z
            have h9 := hin e he
            rw [show ((e.1 : Nat) : Int) = ((c : Nat) : Int) by rw [e9]] at h9
            have nd2 : (msr.take (i + 1)).Nodup := List.Sublist.nodup (List.take_sublist _ _) ndm
            rw [take_succV ey, List.nodup_append] at nd2
            exact nd2.2.2 _ h9 _ List.mem_cons_self rfl
          · rcases List.mem_append.mp he with z | z
            · exact tk e z
            · rw [List.mem_singleton.mp z, take_succV ey]
              exact List.mem_append_right _ List.mem_cons_self
        · exact ⟨as, kv2, vs2, sG.trans n5, rfl, pr_map (fun a kv h => n5.tup h) hp, hw.stay fun y ys s => n5.tup s, by omega, zv, tk⟩
      · rintro ys H' ⟨as, kv2, vs2, sG, rfl, hp, hw, hl, zv, hin⟩ p1 kp1
        rw [List.length_map] at hl
        fail "go"
        have n1' := same_new kp1 (.lst (as.map V.ref))
        have fp : (upd H' p1 (.lst (as.map V.ref))) p1 = some (.lst (as.map V.ref)) := upd_same
        have hp2 := pr_map (G := fun b (kv : Key × V) => SqT K (upd H' p1 (.lst (as.map V.ref))) b [kV kv.1, kv.2]) (fun b kv h => n1'.tup h) hp
        have hw2 := hw.stay (K := K) (H' := upd H' p1 (.lst (as.map V.ref))) fun y ys s => n1'.tup s
        have SE := (SGl.trans sG).trans n1'
        generalize upd H' p1 (.lst (as.map V.ref)) = GE at n1' fp hp2 hw2 SE ⊢
        have hln := hw.len
        refine ⟨p1, as, kv2, rfl, fp, by omega, hp2, by rw [hw2.keys]; exact keys_nodup zv.nd, fun q2 kq2 => ?_⟩
        exact q q2 _ vs2 (SE.trans (same_new kq2 _)) (SE.free kq2) ⟨kv2, upd_same, hw2.stay fun y ys s => (same_new kq2 _).tup s⟩ zv (by omega)
theorem ok__law_alike {f : Addr} {fd : FuncData} (F : Fun K "_law_alike" "_law_alike" s__law_alike f fd) (b_dict : mg "dict" = none) (c_same_whole : Cal P w K mg base CX0 2 "same_whole" ["one", "other"] (sp_same_whole K)) (b_isinstance : mg "isinstance" = none) (b_bool : mg "bool" = none) : FnOk P w K mg base CX0 3 f fd ["_law_one", "_law_other", "_law_due_here"] (sp__law_alike K) := by
  refine F.ok sc__law_alike (fun vs H Q E h => ?_) (fun cdv A outer s H vs Q E hr h => ?_)
  · obtain ⟨_, _, _, _, _, rfl, _⟩ := h
    rfl
  obtain ⟨a, b, d, ws, us, rfl, hA, hB, zw, zu, l1, l2, l3, l4, hd, q⟩ := h
  refine ⟨_, (pss_cons (ps_set (i := 3) sc__law_alike.nd rfl (Or.inl rfl) (pe_tup (pa_cons (pe_callTy (call_dictQ) rfl b_dict boot_dict (pa_cons (pv 0) pa_nil)) (pa_cons (pe_callTy (call_dictQ) rfl b_dict boot_dict (pa_cons (pv 1) pa_nil)) pa_nil))))
      (pss_cons (ps_for PassesOwn.never rfl (pi_list (pe_lst (pa_cons (pe_fn c_same_whole hr pass0 (pa_cons (pe_ix (ix_tup) (pv 3) pe_int (fun _ _ => rfl)) (pa_cons (pe_ix (ix_tup) (pv 3) pe_int (fun _ _ => rfl)) pa_nil))) (pa_cons (pe_fn c_same_whole hr pass0 (pa_cons (pe_ix (ix_tup) (pv 3) pe_int (fun _ _ => rfl)) (pa_cons (pe_ix (ix_tup) (pv 3) pe_int (fun _ _ => rfl)) pa_nil))) pa_nil)))) (pg_name (i := 4) sc__law_alike.nd rfl (Or.inl rfl)) (pss_one (ps_if (PW.pt (pw_or (pt_not (pt_val (pe_isB rfl b_isinstance (pv 4) b_bool boot_bool))) (pw_or1 (pt_cmpR (op_ne) (pv 4) (pv 2) (nomark _))))) (pss_one (ps_ret pe_bl)) pss_nil)))
      (pss_one (ps_ret (pe_cmpR (op_eqTT (hu_of64 hr)) (pv 3) (pe_tup (pa_cons (pv 0) (pa_cons (pv 1) pa_nil))) (nomark _)))))), ?_⟩
  fail "st"
  obtain ⟨k1, h1, w1⟩ := id hA
  fail "go"
  refine st_dict h1 fun p1 kp1 => ?_
  have n1 := same_new kp1 (.dK k1)
  have fA : WhAt K (upd H p1 (.dK k1)) p1 ws := ⟨k1, upd_same, w1.stay fun y ys s => n1.tup s⟩
  have hA1 := hA.stay n1
  have hB1 := hB.stay n1
  generalize upd H p1 (.dK k1) = G1 at n1 fA hA1 hB1 ⊢
  obtain ⟨k2, h2, w2⟩ := id hB1
  fail "go"
  refine st_dict h2 fun p2 kp2 => ?_
  have n2 := same_new kp2 (.dK k2)
  have fB : WhAt K (upd G1 p2 (.dK k2)) p2 us := ⟨k2, upd_same, w2.stay fun y ys s => n2.tup s⟩
  have fA2 := fA.stay n2
  have hA2 := hA1.stay n2
  have hB2 := hB1.stay n2
  have e12 : p1 ≠ p2 := fun z => by
    obtain ⟨kk, e, _⟩ := fA
    rw [z, kp2] at e
    cases e
  have e1a : p1 ≠ a := fun z => by
    rw [z, h1] at kp1
    cases kp1
  have e2b : p2 ≠ b := fun z => by
    rw [z, h2] at kp2
    cases kp2
  have S2 := n1.trans n2
  generalize upd G1 p2 (.dK k2) = G2 at n2 fB fA2 hA2 hB2 S2 ⊢
  fail "go"
  rename_i t kt
  have S3 : Same G2 (upd G2 t (.tup [.ref p1, .ref p2])) := same_new kt _
  have ft : SqT K (upd G2 t (.tup [.ref p1, .ref p2])) t [.ref p1, .ref p2] := SqT.of upd_same
  have hA3 := hA2.stay S3
  have hB3 := hB2.stay S3
  have fA3 := fA2.stay S3
  have fB3 := fB.stay S3
  have SS := S2.trans S3
  generalize upd G2 t (.tup [.ref p1, .ref p2]) = G3 at S3 ft hA3 hB3 fA3 fB3 SS ⊢
  refine st_forE ?_
  fail "go"
  refine ⟨p1, p2, ws, us, rfl, e12, fA3, fB3, zw, zu, l1, l3, l4, fun v1 H4 s4 hv1 => ?_⟩
  have ft4 := s4.tup ft
  fail "go"
  refine ⟨p2, p1, us, ws, rfl, Ne.symm e12, fB3.stay s4, fA3.stay s4, zu, zw, l2, l4, l3, fun v2 H5 s5 hv2 => ?_⟩
  have ev1 : v1 = d := by
    cases v1 <;> cases d
    · rfl
    · exact (hv1.mpr (hd.mp rfl))
    · exact (hd.mpr (hv1.mp rfl)).symm
    · rfl
  have ev2 : v2 = d := by
    have h' : v2 = true ↔ Due ws us := ⟨fun z => due_symm (hv2.mp z), fun z => hv2.mpr (due_symm z)⟩
    cases v2 <;> cases d
    · rfl
    · exact (h'.mpr (hd.mp rfl))
    · exact (hd.mpr (h'.mp rfl)).symm
    · rfl
  subst ev1
  subst ev2
  fail "go"
  rename_i l kl
  have S6 : Same G3 (upd H5 l (.lst [.bl v2, .bl v2])) := (s4.trans s5).trans (same_new kl _)
  have fl : (upd H5 l (.lst [.bl v2, .bl v2])) l = some (.lst [.bl v2, .bl v2]) := upd_same
  generalize upd H5 l (.lst [.bl v2, .bl v2]) = G6 at S6 fl ⊢
  refine st_forAt (SqL.of fl) (fun i σ H' => ∃ u : Option V, σ = [some (.ref a), some (.ref b), some (.bl v2), some (.ref t), u] ∧ H' = G6) ⟨none, rfl, rfl⟩ ?_ ?_ ?_
  · rintro i σ H' _ ⟨u, _, rfl⟩
    exact SqL.of fl
  · rintro i x σ H' hx ⟨u, rfl, rfl⟩
    have ex : x = .bl v2 := by
      have hm := List.mem_of_getElem? hx
      simp only [List.mem_cons, List.not_mem_nil, or_false, or_self] at hm
      exact hm
    subst ex
    fail "go"
    refine iteN (fun c => (c rfl).elim) (fun _ => ?_)
    fail "go"
    exact ⟨_, rfl, rfl⟩
  · rintro σ H' ⟨u, rfl, rfl⟩
    fail "go"
    rename_i t7 kt7
    have S7 : Same H' (upd H' t7 (.tup [.ref a, .ref b])) := same_new kt7 _
    refine ⟨t, t7, p1, p2, a, b, rfl, rfl, S7.tup (S6.tup ft), SqT.of upd_same, e1a, e2b, whole_same ((fA3.stay S6).stay S7) ((hA3.stay S6).stay S7) zw.nd, whole_same ((fB3.stay S6).stay S7) ((hB3.stay S6).stay S7) zu.nd, ?_⟩
    exact q _ ((SS.trans S6).trans S7)
theorem ok_law {f : Addr} {fd : FuncData} (F : Fun K "law" "law" s_law f fd) (c__law_whole : Cal P w K mg base CX0 3 "_law_whole" ["_law_cells"] (sp__law_whole K)) (c__law_times : Cal P w K mg base CX0 2 "_law_times" ["_law_whole_here", "_law_factor_here"] (sp__law_times K)) (c__law_changed : Cal P w K mg base CX0 2 "_law_changed" ["_law_whole_here", "_law_draw"] (sp__law_changed K)) (c__law_alike : Cal P w K mg base CX0 3 "_law_alike" ["_law_one", "_law_other", "_law_due_here"] (sp__law_alike K)) (c__law_factor : Cal P w K mg base CX0 3 "_law_factor" ["_law_draw"] (sp__law_factor K)) (c__law_cell_at : Cal P w K mg base CX0 1 "_law_cell_at" ["_law_script", "_law_k"] (sp__law_cell_at K)) (c__law_due : Cal P w K mg base CX0 2 "_law_due" ["_law_one", "_law_other"] (sp__law_due K)) : FnOk P w K mg base CX0 4 f fd ["_law_script"] (sp_law K) := by
  refine F.ok sc_law (fun vs H Q E h => ?_) (fun cdv A outer s H vs Q E hr h => ?_)
  · obtain ⟨_, _, rfl, _⟩ := h
    rfl
  obtain ⟨a, ns, rfl, ha, hn, q⟩ := h
  refine ⟨_, (pss_cons (ps_set (i := 1) sc_law.nd rfl (Or.inl rfl) (pe_fn c__law_whole hr pass0 (pa_cons (pe_slice (sl_list) (pv 0) (po_some pe_int) (po_some pe_int)) pa_nil)))
      (pss_cons (ps_set (i := 2) sc_law.nd rfl (Or.inl rfl) (pe_fn c__law_times hr pass0 (pa_cons (pv 1) (pa_cons (pe_fn c__law_factor hr pass0 (pa_cons (pe_fn c__law_cell_at hr pass0 (pa_cons (pv 0) (pa_cons pe_int pa_nil))) pa_nil)) pa_nil))))
      (pss_cons (ps_set (i := 3) sc_law.nd rfl (Or.inl rfl) (pe_fn c__law_times hr pass0 (pa_cons (pv 1) (pa_cons (pe_fn c__law_factor hr pass0 (pa_cons (pe_fn c__law_cell_at hr pass0 (pa_cons (pv 0) (pa_cons pe_int pa_nil))) pa_nil)) pa_nil))))
      (pss_cons (ps_if (PW.pt (pw_or (pt_not (pt_val (pe_fn c__law_alike hr pass0 (pa_cons (pv 2) (pa_cons (pv 3) (pa_cons pe_bl pa_nil)))))) (pw_or (pt_not (pt_val (pe_fn c__law_alike hr pass0 (pa_cons (pv 1) (pa_cons (pv 2) (pa_cons pe_bl pa_nil)))))) (pw_or1 (pt_not (pt_val (pe_fn c__law_alike hr pass0 (pa_cons (pv 1) (pa_cons (pv 1) (pa_cons pe_bl pa_nil)))))))))) (pss_one (ps_ret pe_bl)) pss_nil)
      (pss_cons (ps_set (i := 4) sc_law.nd rfl (Or.inl rfl) (pe_fn c__law_changed hr pass0 (pa_cons (pv 3) (pa_cons (pe_fn c__law_cell_at hr pass0 (pa_cons (pv 0) (pa_cons pe_int pa_nil))) pa_nil))))
      (pss_cons (ps_if (pt_cmpR (op_eqM (hu_of64 hr)) (pv 4) pe_dnew (nomark _)) (pss_one (ps_ret pe_bl)) pss_nil)
      (pss_one (ps_ret (pe_fn c__law_alike hr pass0 (pa_cons (pv 2) (pa_cons (pv 4) (pa_cons (pe_fn c__law_due hr pass0 (pa_cons (pv 2) (pa_cons (pv 4) pa_nil))) pa_nil)))))))))))), ?_⟩
  fail "st"
  fail "go"
  rename_i p0 kp0
  obtain ⟨ms, ems, lms⟩ := cut_intsG ns 3 12
  rw [show cutV (ns.map V.int) (some 3) (some 12) = ms.map V.int from ems]
  have n0 := same_new kp0 (.lst (ms.map V.int))
  have ha0 := n0.seq ha
  have f0 : (upd H p0 (.lst (ms.map V.int))) p0 = some (.lst (ms.map V.int)) := upd_same
  generalize upd H p0 (.lst (ms.map V.int)) = G0 at n0 ha0 f0 ⊢
  refine ⟨p0, ms, rfl, SqL.of f0, by omega, fun w0 H1 ws s1 hW z0 l0 l21 => ?_⟩
  have ha1 := s1.seq ha0
  fail "go"
  refine ⟨a, 0, ns, rfl, ha1, fun c0 => ?_⟩
  fail "go"
  refine ⟨c0, rfl, fun t1 H2 c1 s2 ht1 hc1 nc1 => ?_⟩
  fail "go"
  refine ⟨w0, t1, ws, c1, rfl, hW.stay s2, z0, by omega, ht1, hc1, fun w1 H3 s3 kw1 hW1 => ?_⟩
  have z1 : Wz (2 ^ 202) (wtm c1 ws) := (z0.times hc1 nc1).up (by decide)
  have ha3 := s3.seq (s2.seq ha1)
  fail "go"
  refine ⟨a, 1, ns, rfl, ha3, fun c2 => ?_⟩
  fail "go"
  refine ⟨c2, rfl, fun t2 H4 c4 s4 ht2 hc2 nc2 => ?_⟩
  fail "go"
  refine ⟨w0, t2, ws, c4, rfl, ((hW.stay s2).stay s3).stay s4, z0, by omega, ht2, hc2, fun w2 H5 s5 kw2 hW2 => ?_⟩
  have z2 : Wz (2 ^ 202) (wtm c4 ws) := (z0.times hc2 nc2).up (by decide)
  have ha5 := s5.seq (s4.seq ha3)
  have hW0 := (((hW.stay s2).stay s3).stay s4).stay s5
  have hW1' := (hW1.stay s4).stay s5
  have lk : ∀ c, (wtm c ws).length = ws.length := fun c => by unfold wtm; rw [List.length_map]
  have u210 : (2 : Nat) ^ 202 ≤ 2 ^ 210 := by decide
  have u100 : (2 : Nat) ^ 100 ≤ 2 ^ 210 := by decide
  fail "go"
  refine ⟨w1, w2, true, _, _, rfl, hW1', hW2, z1.up u210, z2.up u210, by rw [lk]; omega, by rw [lk]; omega, by rw [lk]; omega, by rw [lk]; omega, ⟨fun _ => due_times ws c1 c4, fun _ => rfl⟩, fun H6 s6 => ?_⟩
  fail "go"
  refine ⟨w0, w1, true, _, _, rfl, hW0.stay s6, hW1'.stay s6, z0.up u100, z1.up u210, l0, by rw [lk]; omega, by omega, by rw [lk]; omega, ⟨fun _ => due_left ws c1, fun _ => rfl⟩, fun H7 s7 => ?_⟩
  fail "go"
  refine ⟨w0, w0, true, _, _, rfl, (hW0.stay s6).stay s7, (hW0.stay s6).stay s7, z0.up u100, z0.up u100, l0, l0, by omega, by omega, ⟨fun _ => due_self ws, fun _ => rfl⟩, fun H8 s8 => ?_⟩
  have s58 := (s6.trans s7).trans s8
  have ha8 := s58.seq ha5
  fail "go"
  refine ⟨a, 2, ns, rfl, ha8, fun c3 => ?_⟩
  fail "go"
  refine ⟨w2, c3, _, rfl, hW2.stay s58, z2, by rw [lk]; omega, by rw [lk]; omega, fun p9 H9 us s9 kp9 hW9 z9 l9 => ?_⟩
  fail "go"
  rename_i e kz
  obtain ⟨k9, h9, w9⟩ := hW9
  have n9 := same_new kz (.dK [])
  have h9' := n9 _ _ h9
  have w9' := w9.stay (K := K) (H' := upd H9 e (.dK [])) fun y ys s => n9.tup s
  refine st_eqM (g := wd []) (.inl h9') (.inl upd_same) (w9'.dv z9.nd) (fun k x hx => nomatch hx) ?_
  generalize upd H9 e (.dK []) = G at n9 h9' w9' ⊢
  rw [Bool.xor_false]
  cases us with
  | nil =>
    have hkv : k9 = [] := List.eq_nil_of_length_eq_zero w9'.len
    subst hkv
    refine ⟨true, rfl, ?_⟩
    fail "go"
    exact q _
  | cons e us =>
    have hc : sameD k9 [] (wd (e :: us)) (wd []) = false := by
      have := w9'.len
      unfold sameD
      rw [decide_eq_false (by rw [this]; simp)]
      rfl
    rw [hc]
    refine ⟨false, rfl, ?_⟩
    have hWd : WhAt K G p9 (e :: us) := ⟨k9, h9', w9'⟩
    have hW1G := ((hW1'.stay s58).stay s9).stay n9
    have ne9 : w1 ≠ p9 := fun z => by
      obtain ⟨kk, ek, _⟩ := hW1'.stay s58
      rw [z, kp9] at ek
      cases ek
    have z9' := z9.up (show (2 : Nat) ^ 203 ≤ 2 ^ 210 by decide)
    fail "go"
    refine ⟨w1, p9, _, _, rfl, ne9, hW1G, hWd, z1.up u210, z9', by rw [lk]; omega, by omega, fun v H10 s10 hv => ?_⟩
    fail "go"
    refine ⟨w1, p9, v, _, _, rfl, hW1G.stay s10, hWd.stay s10, z1.up u210, z9', by rw [lk]; omega, Nat.succ_pos _, by rw [lk]; omega, by omega, hv, fun H11 s11 => ?_⟩
    exact q _
end
theorem all_mk {l : PySem.W.OpenLaw} {w : World} {K : PySem.W.Frag} {h : Heap} {mg : Str → Option Value} {fa f0 f1 f2 f3 f4 f5 f6 f7 f8 f9 f10 f11 f12 f13 : Addr} {od0 an0 od1 an1 od2 an2 od3 an3 od4 an4 od5 an5 od6 an6 od7 an7 od8 an8 od9 an9 od10 an10 od11 an11 od12 an12 od13 an13 : Option Addr} {sl0 sl1 sl2 sl3 sl4 sl5 sl6 sl7 sl8 sl9 sl10 sl11 sl12 sl13 : Array (Option Value)} {oc0 kV0 dc0 pm0 cd0 ct0 oc1 kV1 dc1 pm1 cd1 ct1 oc2 kV2 dc2 pm2 cd2 ct2 oc3 kV3 dc3 pm3 cd3 ct3 oc4 kV4 dc4 pm4 cd4 ct4 oc5 kV5 dc5 pm5 cd5 ct5 oc6 kV6 dc6 pm6 cd6 ct6 oc7 kV7 dc7 pm7 cd7 ct7 oc8 kV8 dc8 pm8 cd8 ct8 oc9 kV9 dc9 pm9 cd9 ct9 oc10 kV10 dc10 pm10 cd10 ct10 oc11 kV11 dc11 pm11 cd11 ct11 oc12 kV12 dc12 pm12 cd12 ct12 oc13 kV13 dc13 pm13 cd13 ct13 : Value} (KX : K.In h) (G : h.Ns mainGlobals mg) (hfa : mg "law" = some (.ref fa))
    (a0 : PySem.W.nsIn K mainGlobals "_law_mixed" = some (some (.ref f0)))
    (l0 : K.lookup f0 = some ⟨oc0, od0, .func (PySem.W.fnOf "_law_mixed" "_law_mixed" (defArgs s__law_mixed) (defBody s__law_mixed) (defScope s__law_mixed) .none kV0 dc0 pm0 an0 cd0 ct0), sl0⟩)
    (q0 : PySem.W.codeIn K cd0 "_law_mixed" = true)
    (k0 : PySem.W.keepIn K (.ref f0) = true)
    (a1 : PySem.W.nsIn K mainGlobals "_law_number" = some (some (.ref f1)))
    (l1 : K.lookup f1 = some ⟨oc1, od1, .func (PySem.W.fnOf "_law_number" "_law_number" (defArgs s__law_number) (defBody s__law_number) (defScope s__law_number) .none kV1 dc1 pm1 an1 cd1 ct1), sl1⟩)
    (q1 : PySem.W.codeIn K cd1 "_law_number" = true)
    (k1 : PySem.W.keepIn K (.ref f1) = true)
    (a2 : PySem.W.nsIn K mainGlobals "_law_bits" = some (some (.ref f2)))
    (l2 : K.lookup f2 = some ⟨oc2, od2, .func (PySem.W.fnOf "_law_bits" "_law_bits" (defArgs s__law_bits) (defBody s__law_bits) (defScope s__law_bits) .none kV2 dc2 pm2 an2 cd2 ct2), sl2⟩)
    (q2 : PySem.W.codeIn K cd2 "_law_bits" = true)
    (k2 : PySem.W.keepIn K (.ref f2) = true)
    (a3 : PySem.W.nsIn K mainGlobals "_law_whole" = some (some (.ref f3)))
    (l3 : K.lookup f3 = some ⟨oc3, od3, .func (PySem.W.fnOf "_law_whole" "_law_whole" (defArgs s__law_whole) (defBody s__law_whole) (defScope s__law_whole) .none kV3 dc3 pm3 an3 cd3 ct3), sl3⟩)
    (q3 : PySem.W.codeIn K cd3 "_law_whole" = true)
    (k3 : PySem.W.keepIn K (.ref f3) = true)
    (a4 : PySem.W.nsIn K mainGlobals "_law_multiplied" = some (some (.ref f4)))
    (l4 : K.lookup f4 = some ⟨oc4, od4, .func (PySem.W.fnOf "_law_multiplied" "_law_multiplied" (defArgs s__law_multiplied) (defBody s__law_multiplied) (defScope s__law_multiplied) .none kV4 dc4 pm4 an4 cd4 ct4), sl4⟩)
    (q4 : PySem.W.codeIn K cd4 "_law_multiplied" = true)
    (k4 : PySem.W.keepIn K (.ref f4) = true)
    (a5 : PySem.W.nsIn K mainGlobals "_law_times" = some (some (.ref f5)))
    (l5 : K.lookup f5 = some ⟨oc5, od5, .func (PySem.W.fnOf "_law_times" "_law_times" (defArgs s__law_times) (defBody s__law_times) (defScope s__law_times) .none kV5 dc5 pm5 an5 cd5 ct5), sl5⟩)
    (q5 : PySem.W.codeIn K cd5 "_law_times" = true)
    (k5 : PySem.W.keepIn K (.ref f5) = true)
    (a6 : PySem.W.nsIn K mainGlobals "_law_changed" = some (some (.ref f6)))
    (l6 : K.lookup f6 = some ⟨oc6, od6, .func (PySem.W.fnOf "_law_changed" "_law_changed" (defArgs s__law_changed) (defBody s__law_changed) (defScope s__law_changed) .none kV6 dc6 pm6 an6 cd6 ct6), sl6⟩)
    (q6 : PySem.W.codeIn K cd6 "_law_changed" = true)
    (k6 : PySem.W.keepIn K (.ref f6) = true)
    (a7 : PySem.W.nsIn K mainGlobals "multiplied" = some (some (.ref f7)))
    (l7 : K.lookup f7 = some ⟨oc7, od7, .func (PySem.W.fnOf "multiplied" "multiplied" (defArgs s_multiplied) (defBody s_multiplied) (defScope s_multiplied) .none kV7 dc7 pm7 an7 cd7 ct7), sl7⟩)
    (q7 : PySem.W.codeIn K cd7 "multiplied" = true)
    (k7 : PySem.W.keepIn K (.ref f7) = true)
    (a8 : PySem.W.nsIn K mainGlobals "same_whole" = some (some (.ref f8)))
    (l8 : K.lookup f8 = some ⟨oc8, od8, .func (PySem.W.fnOf "same_whole" "same_whole" (defArgs s_same_whole) (defBody s_same_whole) (defScope s_same_whole) .none kV8 dc8 pm8 an8 cd8 ct8), sl8⟩)
    (q8 : PySem.W.codeIn K cd8 "same_whole" = true)
    (k8 : PySem.W.keepIn K (.ref f8) = true)
    (a9 : PySem.W.nsIn K mainGlobals "_law_alike" = some (some (.ref f9)))
    (l9 : K.lookup f9 = some ⟨oc9, od9, .func (PySem.W.fnOf "_law_alike" "_law_alike" (defArgs s__law_alike) (defBody s__law_alike) (defScope s__law_alike) .none kV9 dc9 pm9 an9 cd9 ct9), sl9⟩)
    (q9 : PySem.W.codeIn K cd9 "_law_alike" = true)
    (k9 : PySem.W.keepIn K (.ref f9) = true)
    (a10 : PySem.W.nsIn K mainGlobals "_law_factor" = some (some (.ref f10)))
    (l10 : K.lookup f10 = some ⟨oc10, od10, .func (PySem.W.fnOf "_law_factor" "_law_factor" (defArgs s__law_factor) (defBody s__law_factor) (defScope s__law_factor) .none kV10 dc10 pm10 an10 cd10 ct10), sl10⟩)
    (q10 : PySem.W.codeIn K cd10 "_law_factor" = true)
    (k10 : PySem.W.keepIn K (.ref f10) = true)
    (a11 : PySem.W.nsIn K mainGlobals "_law_cell_at" = some (some (.ref f11)))
    (l11 : K.lookup f11 = some ⟨oc11, od11, .func (PySem.W.fnOf "_law_cell_at" "_law_cell_at" (defArgs s__law_cell_at) (defBody s__law_cell_at) (defScope s__law_cell_at) .none kV11 dc11 pm11 an11 cd11 ct11), sl11⟩)
    (q11 : PySem.W.codeIn K cd11 "_law_cell_at" = true)
    (k11 : PySem.W.keepIn K (.ref f11) = true)
    (a12 : PySem.W.nsIn K mainGlobals "_law_due" = some (some (.ref f12)))
    (l12 : K.lookup f12 = some ⟨oc12, od12, .func (PySem.W.fnOf "_law_due" "_law_due" (defArgs s__law_due) (defBody s__law_due) (defScope s__law_due) .none kV12 dc12 pm12 an12 cd12 ct12), sl12⟩)
    (q12 : PySem.W.codeIn K cd12 "_law_due" = true)
    (k12 : PySem.W.keepIn K (.ref f12) = true)
    (a13 : PySem.W.nsIn K mainGlobals "law" = some (some (.ref f13)))
    (l13 : K.lookup f13 = some ⟨oc13, od13, .func (PySem.W.fnOf "law" "law" (defArgs s_law) (defBody s_law) (defScope s_law) .none kV13 dc13 pm13 an13 cd13 ct13), sl13⟩)
    (q13 : PySem.W.codeIn K cd13 "law" = true)
    (k13 : PySem.W.keepIn K (.ref f13) = true)
    (z_dict : PySem.W.nsIn K mainGlobals "dict" = some none)
    (z_sorted : PySem.W.nsIn K mainGlobals "sorted" = some none)
    (z_len : PySem.W.nsIn K mainGlobals "len" = some none)
    (z_min : PySem.W.nsIn K mainGlobals "min" = some none)
    (z_all : PySem.W.nsIn K mainGlobals "all" = some none)
    (z_isinstance : PySem.W.nsIn K mainGlobals "isinstance" = some none)
    (z_bool : PySem.W.nsIn K mainGlobals "bool" = some none) :
    ∃ fd : FuncData, (∀ (s : Shared) (v : Value), BindsTo s fd ⟨[v], []⟩ [("_law_script", v)]) ∧ ∀ base : Heap, K.In base → base.Ns mainGlobals mg → FnOk l.prog w K mg base CX0 4 fa fd ["_law_script"] (sp_law K) := by
  have e := hfa.symm.trans (PySem.W.mg_of KX G a13)
  cases e
  have F0 := fun_mk (st := s__law_mixed) l0 q0 k0
  have b0 := F0.binds (ps := ["_law_draw", "_law_k"]) fun _ _ _ _ _ _ us hl => match us, hl with | [_, _], _ => rfl
  have F1 := fun_mk (st := s__law_number) l1 q1 k1
  have b1 := F1.binds (ps := ["_law_draw", "_law_k"]) fun _ _ _ _ _ _ us hl => match us, hl with | [_, _], _ => rfl
  have F2 := fun_mk (st := s__law_bits) l2 q2 k2
  have b2 := F2.binds (ps := ["_law_draw", "_law_k", "_law_n"]) fun _ _ _ _ _ _ us hl => match us, hl with | [_, _, _], _ => rfl
  have F3 := fun_mk (st := s__law_whole) l3 q3 k3
  have b3 := F3.binds (ps := ["_law_cells"]) fun _ _ _ _ _ _ us hl => match us, hl with | [_], _ => rfl
  have F4 := fun_mk (st := s__law_multiplied) l4 q4 k4
  have b4 := F4.binds (ps := ["_law_one", "_law_other"]) fun _ _ _ _ _ _ us hl => match us, hl with | [_, _], _ => rfl
  have F5 := fun_mk (st := s__law_times) l5 q5 k5
  have b5 := F5.binds (ps := ["_law_whole_here", "_law_factor_here"]) fun _ _ _ _ _ _ us hl => match us, hl with | [_, _], _ => rfl
  have F6 := fun_mk (st := s__law_changed) l6 q6 k6
  have b6 := F6.binds (ps := ["_law_whole_here", "_law_draw"]) fun _ _ _ _ _ _ us hl => match us, hl with | [_, _], _ => rfl
  have F7 := fun_mk (st := s_multiplied) l7 q7 k7
  have b7 := F7.binds (ps := ["one", "other"]) fun _ _ _ _ _ _ us hl => match us, hl with | [_, _], _ => rfl
  have F8 := fun_mk (st := s_same_whole) l8 q8 k8
  have b8 := F8.binds (ps := ["one", "other"]) fun _ _ _ _ _ _ us hl => match us, hl with | [_, _], _ => rfl
  have F9 := fun_mk (st := s__law_alike) l9 q9 k9
  have b9 := F9.binds (ps := ["_law_one", "_law_other", "_law_due_here"]) fun _ _ _ _ _ _ us hl => match us, hl with | [_, _, _], _ => rfl
  have F10 := fun_mk (st := s__law_factor) l10 q10 k10
  have b10 := F10.binds (ps := ["_law_draw"]) fun _ _ _ _ _ _ us hl => match us, hl with | [_], _ => rfl
  have F11 := fun_mk (st := s__law_cell_at) l11 q11 k11
  have b11 := F11.binds (ps := ["_law_script", "_law_k"]) fun _ _ _ _ _ _ us hl => match us, hl with | [_, _], _ => rfl
  have F12 := fun_mk (st := s__law_due) l12 q12 k12
  have b12 := F12.binds (ps := ["_law_one", "_law_other"]) fun _ _ _ _ _ _ us hl => match us, hl with | [_, _], _ => rfl
  have F13 := fun_mk (st := s_law) l13 q13 k13
  have b_dict : mg "dict" = none := PySem.W.mg_none_of KX G z_dict
  have b_sorted : mg "sorted" = none := PySem.W.mg_none_of KX G z_sorted
  have b_len : mg "len" = none := PySem.W.mg_none_of KX G z_len
  have b_min : mg "min" = none := PySem.W.mg_none_of KX G z_min
  have b_all : mg "all" = none := PySem.W.mg_none_of KX G z_all
  have b_isinstance : mg "isinstance" = none := PySem.W.mg_none_of KX G z_isinstance
  have b_bool : mg "bool" = none := PySem.W.mg_none_of KX G z_bool
  refine ⟨PySem.W.fnOf "law" "law" (defArgs s_law) (defBody s_law) (defScope s_law) .none kV13 dc13 pm13 an13 cd13 ct13, fun s v => .of_eq rfl, fun base _ _ => ?_⟩
  have o__law_mixed := ok__law_mixed (P := l.prog) (w := w) (mg := mg) (base := base) F0 
  have c__law_mixed : Cal l.prog w K mg base CX0 1 "_law_mixed" ["_law_draw", "_law_k"] (sp__law_mixed K) := ⟨f0, _, o__law_mixed, b0, k0, PySem.W.mg_of KX G a0⟩
  have o__law_number := ok__law_number (P := l.prog) (w := w) (mg := mg) (base := base) F1 c__law_mixed
  have o__law_bits := ok__law_bits (P := l.prog) (w := w) (mg := mg) (base := base) F2 c__law_mixed
  have c__law_number : Cal l.prog w K mg base CX0 2 "_law_number" ["_law_draw", "_law_k"] (sp__law_number K) := ⟨f1, _, o__law_number, b1, k1, PySem.W.mg_of KX G a1⟩
  have c__law_bits : Cal l.prog w K mg base CX0 2 "_law_bits" ["_law_draw", "_law_k", "_law_n"] (sp__law_bits K) := ⟨f2, _, o__law_bits, b2, k2, PySem.W.mg_of KX G a2⟩
  have o__law_whole := ok__law_whole (P := l.prog) (w := w) (mg := mg) (base := base) F3 c__law_number c__law_bits
  have o__law_multiplied := ok__law_multiplied (P := l.prog) (w := w) (mg := mg) (base := base) F4 
  have c__law_multiplied : Cal l.prog w K mg base CX0 1 "_law_multiplied" ["_law_one", "_law_other"] (sp__law_multiplied K) := ⟨f4, _, o__law_multiplied, b4, k4, PySem.W.mg_of KX G a4⟩
  have o__law_times := ok__law_times (P := l.prog) (w := w) (mg := mg) (base := base) F5 b_dict c__law_multiplied
  have o__law_changed := ok__law_changed (P := l.prog) (w := w) (mg := mg) (base := base) F6 b_dict b_sorted c__law_mixed b_len
  have o_multiplied := ok_multiplied (P := l.prog) (w := w) (mg := mg) (base := base) F7 
  have c_multiplied : Cal l.prog w K mg base CX0 1 "multiplied" ["one", "other"] (sp_multiplied K) := ⟨f7, _, o_multiplied, b7, k7, PySem.W.mg_of KX G a7⟩
  have o_same_whole := ok_same_whole (P := l.prog) (w := w) (mg := mg) (base := base) F8 b_min b_all b_sorted c_multiplied
  have c_same_whole : Cal l.prog w K mg base CX0 2 "same_whole" ["one", "other"] (sp_same_whole K) := ⟨f8, _, o_same_whole, b8, k8, PySem.W.mg_of KX G a8⟩
  have o__law_alike := ok__law_alike (P := l.prog) (w := w) (mg := mg) (base := base) F9 b_dict c_same_whole b_isinstance b_bool
  have o__law_factor := ok__law_factor (P := l.prog) (w := w) (mg := mg) (base := base) F10 c__law_number
  have o__law_cell_at := ok__law_cell_at (P := l.prog) (w := w) (mg := mg) (base := base) F11 b_len
  have o__law_due := ok__law_due (P := l.prog) (w := w) (mg := mg) (base := base) F12 b_sorted c__law_multiplied
  have c__law_whole : Cal l.prog w K mg base CX0 3 "_law_whole" ["_law_cells"] (sp__law_whole K) := ⟨f3, _, o__law_whole, b3, k3, PySem.W.mg_of KX G a3⟩
  have c__law_times : Cal l.prog w K mg base CX0 2 "_law_times" ["_law_whole_here", "_law_factor_here"] (sp__law_times K) := ⟨f5, _, o__law_times, b5, k5, PySem.W.mg_of KX G a5⟩
  have c__law_changed : Cal l.prog w K mg base CX0 2 "_law_changed" ["_law_whole_here", "_law_draw"] (sp__law_changed K) := ⟨f6, _, o__law_changed, b6, k6, PySem.W.mg_of KX G a6⟩
  have c__law_alike : Cal l.prog w K mg base CX0 3 "_law_alike" ["_law_one", "_law_other", "_law_due_here"] (sp__law_alike K) := ⟨f9, _, o__law_alike, b9, k9, PySem.W.mg_of KX G a9⟩
  have c__law_factor : Cal l.prog w K mg base CX0 3 "_law_factor" ["_law_draw"] (sp__law_factor K) := ⟨f10, _, o__law_factor, b10, k10, PySem.W.mg_of KX G a10⟩
  have c__law_cell_at : Cal l.prog w K mg base CX0 1 "_law_cell_at" ["_law_script", "_law_k"] (sp__law_cell_at K) := ⟨f11, _, o__law_cell_at, b11, k11, PySem.W.mg_of KX G a11⟩
  have c__law_due : Cal l.prog w K mg base CX0 2 "_law_due" ["_law_one", "_law_other"] (sp__law_due K) := ⟨f12, _, o__law_due, b12, k12, PySem.W.mg_of KX G a12⟩
  exact ok_law F13 c__law_whole c__law_times c__law_changed c__law_alike c__law_factor c__law_cell_at c__law_due
theorem walk {l : PySem.W.OpenLaw} {q : Program} {loose : List Str} {XP : (Str → Option Value) → Heap → Prop} {YP : World → Heap → Prop} {d : DefRec} {K : Params → PySem.W.Frag} (hn : l.most = some 63) (hdf : d.params.defaults = [])
    (hY : ∀ (w : World) (h : Heap), YP w h → (K w.params).In h)
    (F : ∀ (w : World) (mg : Str → Option Value) (fa : Addr) (h : Heap), (K w.params).In h → h.Ns mainGlobals mg → mg d.name = some (.ref fa) →
      ∃ fd : FuncData, (∀ (s : Shared) (u : Value), BindsTo s fd ⟨[u], []⟩ [("_law_script", u)]) ∧ ∀ base : Heap, (K w.params).In base → base.Ns mainGlobals mg → FnOk l.prog w (K w.params) mg base CX0 4 fa fd ["_law_script"] (sp_law (K w.params))) :
    PySem.W.WalkO q loose XP YP l.row.toRowW d [] (fun f vs => PySem.call f vs) :=
  L2.walk_of (n := 63) (k := 4) (x := "_law_script") (CX := fun _ => CX0) (sp := fun w => sp_law (K w.params)) hn (by decide) hdf ⟨rfl, by decide, by decide⟩ hY F (fun _ _ a ns hl _ hS => ⟨a, ns, rfl, hS, hl, fun _ => rfl⟩) fun _ _ _ _ _ z => z
end Tw
open PySem PySem.W PyProof.Rows
set_option maxRecDepth 100000 in
set_option maxHeartbeats 0 in
theorem PySem.Challenge.cw_twinwires_k23_the_same_but_for_a_factor_holds : PySem.Challenge.rw_twinwires_k23_the_same_but_for_a_factor.Holds := by
  w_on; o_law
  refine Tw.holds_once Tw.run0 Tw.run1 (by kernel_rfl) (fun _ => by kernel_rfl) (by kernel_rfl) (by rfl) (by rfl) (by rfl) (by rfl) (by first | assumption | decide +kernel) (by decide +kernel) ⟨rfl, rfl, rfl, rfl, rfl, by decide +kernel⟩ ?hw ?hc
  (case hw => w_witness2)
  k_fill
  refine Tw.walk (l := PySem.Challenge.rw_twinwires_k23_the_same_but_for_a_factor) rfl rfl (fun w h Y => PySem.W.kIn_of Y) ?F
  case F =>
    intro w mg fa h KX G hmg
    refine' Tw.all_mk KX G hmg ?a0 ?l0 ?q0 ?k0 ?a1 ?l1 ?q1 ?k1 ?a2 ?l2 ?q2 ?k2 ?a3 ?l3 ?q3 ?k3 ?a4 ?l4 ?q4 ?k4 ?a5 ?l5 ?q5 ?k5 ?a6 ?l6 ?q6 ?k6 ?a7 ?l7 ?q7 ?k7 ?a8 ?l8 ?q8 ?k8 ?a9 ?l9 ?q9 ?k9 ?a10 ?l10 ?q10 ?k10 ?a11 ?l11 ?q11 ?k11 ?a12 ?l12 ?q12 ?k12 ?a13 ?l13 ?q13 ?k13 ?z_dict ?z_sorted ?z_len ?z_min ?z_all ?z_isinstance ?z_bool
    (case a0 => k_is)
    (case l0 => k_is)
    (case q0 => k_is)
    (case k0 => k_is)
    (case a1 => k_is)
    (case l1 => k_is)
    (case q1 => k_is)
    (case k1 => k_is)
    (case a2 => k_is)
    (case l2 => k_is)
    (case q2 => k_is)
    (case k2 => k_is)
    (case a3 => k_is)
    (case l3 => k_is)
    (case q3 => k_is)
    (case k3 => k_is)
    (case a4 => k_is)
    (case l4 => k_is)
    (case q4 => k_is)
    (case k4 => k_is)
    (case a5 => k_is)
    (case l5 => k_is)
    (case q5 => k_is)
    (case k5 => k_is)
    (case a6 => k_is)
    (case l6 => k_is)
    (case q6 => k_is)
    (case k6 => k_is)
    (case a7 => k_is)
    (case l7 => k_is)
    (case q7 => k_is)
    (case k7 => k_is)
    (case a8 => k_is)
    (case l8 => k_is)
    (case q8 => k_is)
    (case k8 => k_is)
    (case a9 => k_is)
    (case l9 => k_is)
    (case q9 => k_is)
    (case k9 => k_is)
    (case a10 => k_is)
    (case l10 => k_is)
    (case q10 => k_is)
    (case k10 => k_is)
    (case a11 => k_is)
    (case l11 => k_is)
    (case q11 => k_is)
    (case k11 => k_is)
    (case a12 => k_is)
    (case l12 => k_is)
    (case q12 => k_is)
    (case k12 => k_is)
    (case a13 => k_is)
    (case l13 => k_is)
    (case q13 => k_is)
    (case k13 => k_is)
    (case z_dict => k_is)
    (case z_sorted => k_is)
    (case z_len => k_is)
    (case z_min => k_is)
    (case z_all => k_is)
    (case z_isinstance => k_is)
    (case z_bool => k_is)

