import PyProof.Rows.All
import Wide.All
import OpenK.AllK
import Wide.FinOn
import Lean
import PyProof.EqAt
import PyProof.EqKinds
import PyProof.TupleCall
import Open.Pieces
import KE.KPairComp
import KE.KRevIter
import PyProof.EnumMake
import PyProof.IsRules
import PyProof.AutoListH
import PyProof.ConsumeWalk
import PyProof.Rows.SortWalk
import PyProof.DictValues
import PyProof.DictWalks
import PyProof.Rows.SumAny
import PyProof.AttrMissHeap
import KE.KDictOf
import KE.KDictList
import PyProof.Rows.SortRev
import PyProof.Rows.CallKwBuiltin
import PyProof.ListStr
import PyProof.CollectIter
import PyProof.ListIndex
import PyProof.Dict
import PyProof.Rows.TupDisplay
import PyProof.ListRange
import PyProof.ZipIter
import PySem.Challenge.RW_twinwires_k68_whole_lines_of_a_whole
set_option maxRecDepth 100000
namespace Tw
open PySem PySem.Calls PySem.W PyProof.Rows
def runG (thr ok:Thread->Bool)(go:SharedT->Thread->Option (SharedT × Thread)):Nat->SharedT->Thread->Option SharedT
 | 0,_,_=>none
 | m + 1,a,x=>match thr x with
  | true=>some a
  | false=>match ok x with
   | false=>none
   | true=>match go a x with
    | some (b,y)=>(match Nat.beq b.toks b.toks with
     | true=>runG thr ok go m b y
     | false=>none)
    | none=>none
theorem runG_top {tb:String->Option Builtin}{p:Program}{w:World}{i:Nat}{an:Option Value}:∀ (m:Nat) (a b:SharedT) (x:Thread),
  runG through (stepOk i an) (stepT (denote tb) p w) m a x=some b->topRun tb p w i an m a.abs x=some b.abs
 | 0,_,_,_,h=>by cases h
 | m + 1,a,b,x,h=>by
  unfold runG at h;unfold topRun
  cases e1:through x with
  | true=>rw [e1] at h; cases h; rfl
  | false=>
   rw [e1] at h
   cases e2:stepOk i an x with
   | false=>rw [e2] at h; cases h
   | true=>
    rw [e2] at h
    cases e3:stepT (denote tb) p w a x with
    | none=>rw [e3] at h; cases h
    | some r=>
     obtain ⟨c,y⟩:=r;rw [e3] at h;rw [stepT_spec e3];dsimp only at h ⊢
     cases e4:Nat.beq c.toks c.toks with
     | false=>rw [e4] at h; cases h
     | true=>rw [e4] at h; exact runG_top m c b y h
def runT (p:Program)(w:World)(i:Nat)(an:Option Value)(m:Nat)(a:SharedT):Option SharedT:=runG through (stepOk i an) (stepT (denote treeTable) p w) m a (topStub p)
noncomputable def bootT (P:Params):BT:=((boot_heap P).objs.toList.foldl (fun (x:BT × Nat) o=>(x.1.ins x.2 o,x.2 + 1)) (BT.nil,0)).1
noncomputable def bootS (n:Nat)(w:World)(os:OsState):SharedT:=⟨bootT w.params,n,(boot_heap w.params).life,Array.mk [],boot_drawn,boot_toks,os⟩
noncomputable def lookT (p q:Program)(lo:List Str)(Xt:Shared->Bool)(bh:Heap)(s:Shared):=
 ((staticsOk (importedModules p.main.body) bh s.heap && namesBound p s.heap && gensDone s && laidKept bh s.heap),openSeen q lo (importedModules p.main.body) Xt true s)
theorem left_once {p q:Program}{lo:List Str}{Xt:Shared->Bool}{β:Type}{Yf:Shared->β}{Ya:World->β}{N M n:Nat}{an:Option Value}(row:String)
  (e:opening p=plainProg p.main.scope.names) (h6:Nat.ble 600 N=true) (fe:∀ s,fenceModules? p s=some s)
  (tr:∀ P,absHeap (bootT P) n (boot_heap P).life=boot_heap P)
  (sz:∀ P,((boot_heap P).isNs mainGlobals,(boot_heap P).objs.size,(boot_heap P).nsMap mainGlobals "__annotations__") = (true,n,an))
  (le:Nat.ble M N=true)
  (run0:∀ (w:World) (os:OsState),(runT p (w.withFollow row false) n an M (bootS n (w.withFollow row false) os)).map (fun s=>(lookT p q lo Xt (boot_heap (w.withFollow row false).params) s.abs,Yf s.abs)) = some ((true,openGood q lo),Ya (w.withFollow row false)))
  (run1:∀ (w:World) (os:OsState),(runT p (w.withFollow row true) n an M (bootS n (w.withFollow row true) os)).map (fun s=>(lookT p q lo Xt (boot_heap (w.withFollow row true).params) s.abs,Yf s.abs)) = some ((true,openGood q lo),Ya (w.withFollow row true))) :
  LeftO p q lo Xt Yf Ya N true:=byRow2 row (P:=fun w=>(openEnds treeTable p w N).map (fun s=>(openSeen q lo (importedModules p.main.body) Xt true s,Yf s)) = some (openGood q lo,Ya w)) (fun w=>one _ (run0 w)) (fun w=>one _ (run1 w))
 where
 one (w:World) (run:∀ os:OsState,(runT p w n an M (bootS n w os)).map (fun s=>(lookT p q lo Xt (boot_heap w.params) s.abs,Yf s.abs)) = some ((true,openGood q lo),Ya w)) :
   (openEnds treeTable p w N).map (fun s=>(openSeen q lo (importedModules p.main.body) Xt true s,Yf s)) = some (openGood q lo,Ya w):=by
  obtain ⟨⟨h,gs,d,k,os⟩,a1,a2⟩:=Option.map_eq_some_iff.mp (boot_open e h6 fe w);simp only [Prod.mk.injEq] at a2;obtain ⟨rfl,rfl,rfl,rfl⟩:=a2;obtain ⟨b,b1,b2⟩:=Option.map_eq_some_iff.mp (run os);simp only [Prod.mk.injEq,lookT] at b2;obtain ⟨⟨l1,l2⟩,l3⟩:=b2
  have r:topRun treeTable p w n an M ⟨boot_heap w.params,Array.mk [],boot_drawn,boot_toks,os⟩ (topStub p) = some b.abs:=by
   have:=runG_top _ _ _ _ b1;rw [<- tr w.params];exact this
  have r:=topRun_mono (N - M) _ _ _ _ r;rw [show M + (N - M) = N by have:=Nat.le_of_ble_eq_true le; omega] at r;have z:=sz w.params;simp only [Prod.mk.injEq] at z;obtain ⟨z1,z2,z3⟩:=z
  have t:topFrom treeTable p w N ⟨boot_heap w.params,Array.mk [],boot_drawn,boot_toks,os⟩ = some b.abs:=by
   unfold topFrom;dsimp only;rw [z1,z2,z3,r];show (match staticsOk (importedModules p.main.body) (boot_heap w.params) b.abs.heap && namesBound p b.abs.heap && gensDone b.abs && laidKept (boot_heap w.params) b.abs.heap with | true=>some b.abs | false=>none) = _;rw [l1]
  unfold openEnds;rw [a1];show (topFrom treeTable p w N _).map _=_;rw [t];exact congrArg some (Prod.ext l2 l3)
theorem runT_self:Tw.runT=Tw.runT:=rfl
theorem lookT_self:@Tw.lookT= @Tw.lookT:=rfl
end Tw
lay_quick Tw.runT Tw.lookT
name_quick runQ for Tw.runT by Tw.runT_self
name_quick lookQ for Tw.lookT by Tw.lookT_self
namespace Tw
open PySem PySem.Calls PySem.W PyProof.Rows
theorem boot_tree (P:Params):absHeap (bootT P) 11 (boot_heap P).life=boot_heap P:=by kernel_rfl
theorem boot_size (P:Params):((boot_heap P).isNs mainGlobals,(boot_heap P).objs.size,(boot_heap P).nsMap mainGlobals "__annotations__") = (true,11,some (.ref 6)):=by kernel_rfl
def RunOk (r:OpenRow)(q:Program)(lo:List Str)(lv:List (Str × WData))(H:Hook)(N:Nat)(row:String)(b:Bool):Prop:=
 ∀ (w:World) (os:OsState),(Fast.runQ r.prog (w.withFollow row b) 11 (some (.ref 6)) N (bootS 11 (w.withFollow row b) os)).map (fun s=>(Fast.lookQ r.prog q lo (fun s=>xlAt q lv s && recOk r.records s) (boot_heap (w.withFollow row b).params) s.abs,H.obs s.abs)) = some ((true,openGood q lo),H.val (w.withFollow row b))
theorem holds_once {r:OpenRow}{q:Program}{lo:List Str}{lv:List (Str × WData)}{d:DefRec}{kwd:List (Str × Expr)}{N:Nat}{H:Hook}{row:String}(run0:RunOk r q lo lv H N row false)(run1:RunOk r q lo lv H N row true)
  (e:opening r.prog=plainProg r.prog.main.scope.names) (fe:∀ s,fenceModules? r.prog s=some s) (h6:Nat.ble 600 N=true)
  (hd:defOf q r.name=some (d,kwd)) (hp:r.prog.theDef r.name=some (d.params,d.body,d.scope)) (hk:kwWritten? d.params.kwonlyargs d.params.kw_defaults=some kwd) (hwr:(!r.writes || r.records.isEmpty) = true)
  (k1:r.wellSaid=true) (ok:(chainsOk q && opensWell r.prog && (frees r.toRowW && r.within.isEmpty)) = true) (hb:r.prog.bare) (hw:r.toRowW.promised) (hc:WalkO q lo (XL q lv) H.says r.toRowW d kwd fun f vs=>PySem.call f vs):r.Holds:=
 holds_open (Xt:=fun s=>xlAt q lv s && recOk r.records s) (N:=N)
  (left_once (M:=N) row e h6 fe boot_tree boot_size (Nat.ble_eq.mpr (Nat.le_refl N)) (by rw [Fast.runQ_eq,Fast.lookQ_eq]; exact run0) (by rw [Fast.runQ_eq,Fast.lookQ_eq]; exact run1))
  H.of H.keeps (fun s z=>xl_of s (Bool.and_eq_true_iff.mp z).1) XL.keeps hd hp hk (fun s z=>recFacts_of (Bool.and_eq_true_iff.mp z).2) hwr k1 ok hb hw hc
end Tw
set_option Elab.async false
section
open PySem PySem.W
set_option maxHeartbeats 0
local macro_rules | `(tactic| o_head $_)=>`(tactic| assumption)
theorem Tw.pre:PySem.Challenge.rw_twinwires_k68_whole_lines_of_a_whole.row.Holds->PySem.Challenge.rw_twinwires_k68_whole_lines_of_a_whole.row.Holds:=by
 intro _
 k_head
noncomputable def Tw.vw:Program:=PySem.W.view PySem.Challenge.pw_twinwires_k68_whole_lines_of_a_whole [0,2,3,4,6,7,8,9,11,12,13,14,15,16,17,18,19,21,22,24,26,27,28,30,31,32,33,34,35,36,37,38,39,40,41,42]
noncomputable def Tw.hk:PySem.W.Hook:=PySem.W.kHook Tw.pre.heap_1 [2,3,15,17,18,20,21,22,24,25,27,28,29,31,32,34,35,36,38,39,41,42,43,50,51,52,53,56,63,64,65,68,75,76,77,80,87,88,89,92,95,96,97,99,100,102,103,104,106,107,109,110,111,113,114,116,117,118,121,122,123,125,126,128,129,137,139,140,142,143,144,146,147,149,150,151,153,154,156,157,158,160,161,163,164,165,167,168,170,171,172,174,175,177,178,179,180,181,182,183,186,188,189,191,192,193,196,197,198,200,201,203,204,205,208,209,210,212,213,215,216,217,219,220,222,223,224,226,227,229,230,231,233,234,236,237,238,240,241,243,244,245,247,248,250,251,252,254,255,257,258,259,261,262,264,265,266,268,269,271,272,273,275,276,278,279,280,282,283,285,286,287,290,291,292,294,295,297,298,299,302,303] (fun _=>by kernel_rfl)
theorem Tw.run0:Tw.RunOk PySem.Challenge.rw_twinwires_k68_whole_lines_of_a_whole.row Tw.vw [] [] Tw.hk 4440 "special-get-raises" false:=fun w os=>by kernel_rfl
theorem Tw.run1:Tw.RunOk PySem.Challenge.rw_twinwires_k68_whole_lines_of_a_whole.row Tw.vw [] [] Tw.hk 4440 "special-get-raises" true:=fun w os=>by kernel_rfl
end
set_option linter.all false
namespace L2
open PySem PySem.Spec PyProof.Rows
abbrev Key:=Sum Int Str
def keyIs:Key->Value->Bool
 | .inl k,v=>Value.isInt k v
 | .inr x,v=>Value.isStrOf x v
def keyH (w:World):Key->Int
 | .inl k=>hashInt k
 | .inr x=>hashStr w x
theorem a1s:∀ {k:Key} {v:Value},keyIs k v=true->(∃ i t,k=Sum.inl i/\v=Value.int i t)\/(∃ x t,k=Sum.inr x/\v=Value.str x t)
 | .inl i,v,h=>by
  obtain ⟨t,e⟩:=Value.isInt_shape (k:=i) (v:=v) h;exact .inl ⟨i,t,rfl,e⟩
 | .inr x,v,h=>by
  obtain ⟨t,e⟩:=Value.isStrOf_shape (x:=x) (v:=v) h;exact .inr ⟨x,t,rfl,e⟩
theorem keyIs_int (i:Int)(t:Tok):keyIs (.inl i) (.int i t) = true:=by simp [keyIs,Value.isInt]
theorem keyIs_str (x:Str)(t:Tok):keyIs (.inr x) (.str x t) = true:=by simp [keyIs,Value.isStrOf]
theorem key_ll (a b:Int):decide ((Sum.inl a:Key) = Sum.inl b) = (a == b):=by
 by_cases e:a=b
 ·subst e; simp
 ·have h:¬ (Sum.inl a:Key) = Sum.inl b:=fun q=>e (Sum.inl.inj q);rw [decide_eq_false h];exact (beq_eq_false_iff_ne.mpr e).symm
theorem key_rr (a b:Str):decide ((Sum.inr a:Key) = Sum.inr b) = decide (a=b):=by
 by_cases e:a=b
 ·subst e; simp
 ·have h:¬ (Sum.inr a:Key) = Sum.inr b:=fun q=>e (Sum.inr.inj q);rw [decide_eq_false h,decide_eq_false e]
theorem key_lr (a:Int)(b:Str):decide ((Sum.inl a:Key) = Sum.inr b) = false:=decide_eq_false (fun q=>nomatch q)
theorem key_rl (a:Str)(b:Int):decide ((Sum.inr a:Key) = Sum.inl b) = false:=decide_eq_false (fun q=>nomatch q)
def a1f (prog:Program)(w:World):PySem.KeyKind prog w Key where
 is:=keyIs
 hash:=keyH w
 inj:=fun v a b ha hb=>by
  rcases a1s ha with ⟨i,t,rfl,rfl⟩ | ⟨x,t,rfl,rfl⟩
  ·rcases a1s hb with ⟨j,u,rfl,e⟩ | ⟨y,u,rfl,e⟩
   ·injection e with e1 _; rw [e1]
   ·exact nomatch e
  ·rcases a1s hb with ⟨j,u,rfl,e⟩ | ⟨y,u,rfl,e⟩
   ·exact nomatch e
   ·injection e with e1 _; rw [e1]
 byValue:=fun k v h=>by
  rcases a1s h with ⟨i,t,rfl,rfl⟩ | ⟨x,t,rfl,rfl⟩ <;> rfl
 pyHash:=fun hv h=>by
  rcases a1s hv with ⟨i,t,rfl,rfl⟩ | ⟨x,t,rfl,rfl⟩
  ·exact wpAny_pyHash_int h
  ·exact wpAny_pyHash_str h
 eqBool:=fun hu hv h=>by
  rcases a1s hu with ⟨i,t,rfl,rfl⟩ | ⟨x,t,rfl,rfl⟩
  ·rcases a1s hv with ⟨j,u,rfl,rfl⟩ | ⟨y,u,rfl,rfl⟩
   ·rw [key_ll] at h; exact wpAny_eqBool_int h
   ·rw [key_lr] at h; exact SeqAt.EqAt.int_str i t y u _ _ _ _ h
  ·rcases a1s hv with ⟨j,u,rfl,rfl⟩ | ⟨y,u,rfl,rfl⟩
   ·rw [key_rl] at h; exact SeqAt.EqAt.str_int x t j u _ _ _ _ h
   ·rw [key_rr] at h; exact wpAny_eqBool_str h
 «strs»:=fun k x t v h=>by
  rcases a1s h with ⟨i,u,rfl,e⟩ | ⟨y,u,rfl,e⟩
  ·exact nomatch e
  ·injection e with e1 _
   subst e1;cases v <;> rfl
theorem mixKind_int (prog:Program)(w:World)(i:Int)(t:Tok):(a1f prog w).is (.inl i) (.int i t) = true:=keyIs_int i t
theorem mixKind_str (prog:Program)(w:World)(x:Str)(t:Tok):(a1f prog w).is (.inr x) (.str x t) = true:=keyIs_str x t
end L2
namespace L2
open PySem PySem.Spec PyProof.Rows
variable {a b:Addr}{h:Heap}{o:Obj}
inductive V where
 | non | bl (b:Bool) | int (i:Int) | str (x:Str) | byt (b:Array UInt8) | flt (b:UInt64) | ref (a:Addr) | ty (n:String)
 deriving DecidableEq
def a2s:V->Value->Prop
 | .non,u=>u=Value.none
 | .bl b,u=>u=Value.bool b
 | .int i,u=>∃ t,u=Value.int i t
 | .str x,u=>∃ t,u=Value.str x t
 | .byt b,u=>∃ t,u=Value.bytes b t
 | .flt b,u=>∃ t,u=Value.float b t
 | .ref a,u=>u=Value.ref a
 | .ty n,u=>u=Value.type n
abbrev a2t:List V->List Value->Prop:=Paired a2s
theorem a2t.length {xs:List V}{us:List Value}(r:a2t xs us):xs.length=us.length:=Paired.length r
theorem a2t.get:∀ {xs:List V} {us:List Value} {i:Nat} {x:V},a2t xs us->xs[i]? = some x->∃ u,us[i]? = some u/\a2s x u
 | _,_,_,_,.nil,e=>by simp at e
 | _,_,0,_,.cons r _,e=>by simp at e; subst e; exact ⟨_,rfl,r⟩
 | _,_,i + 1,x,.cons _ t,e=>by
  obtain ⟨u,h1,h2⟩:=a2t.get (i:=i) (x:=x) t (by simpa using e);exact ⟨u,by simpa using h1,h2⟩
theorem a2t.append:∀ {xs ys:List V} {us ws:List Value},a2t xs us->a2t ys ws->a2t (xs ++ ys) (us ++ ws)
 | _,_,_,_,.nil,s=>s
 | _,_,_,_,.cons r t,s=>.cons r (a2t.append t s)
theorem a2t.take:∀ {xs:List V} {us:List Value} (n:Nat),a2t xs us->a2t (xs.take n) (us.take n)
 | _,_,0,_=>.nil
 | _,_,_ + 1,.nil=>.nil
 | _,_,n + 1,.cons r t=>.cons r (a2t.take n t)
theorem a2t.drop:∀ {xs:List V} {us:List Value} (n:Nat),a2t xs us->a2t (xs.drop n) (us.drop n)
 | _,_,0,r=>r
 | _,_,_ + 1,.nil=>.nil
 | _,_,n + 1,.cons _ t=>a2t.drop n t
def RelO:Option V->Option Value->Prop
 | some v,some u=>a2s v u
 | none,none=>True
 | _,_=>False
def KV {κ:Type}:List (κ × V)->List (κ × Value)->Prop:=Paired fun (p:κ × V) (q:κ × Value)=>p.1=q.1/\a2s p.2 q.2
def kV:Key->V
 | .inl i=>.int i
 | .inr x=>.str x
inductive HO where
 /-- a list -/
 | lst (xs:List V)
 /-- a tuple (never changes) -/
 | tup (xs:List V)
 /-- a dict whose keys are ints and texts; one whose keys are tuples of ints and texts (the empty one is both) -/
 | dK (kvs:List (Key × V)) | dT (kvs:List (List Key × V))
 /-- a set of ints: its members,its size -/
 | set (S:Int->Bool) (n:Nat)
 /-- an instance of the class at C,its dict at dx,its attributes -/
 | ins (C dx:Addr) (fs:List (Str × V))
 /-- the dict of the instance at x -/
 | own (x:Addr)
 /-- the dict of an exception -/
 | xd (fs:List (Str × V))
 /-- a bound method,f of x -/
 | met (f x:Addr)
 /-- a range object lo,lo + 1,.. below hi -/
 | rng (lo hi:Int)
 /-- a thing that is known to the object (the script; a dict while a loop walks it): read,never written while it is so -/
 | frz (o:Obj) (u:HO)
 /-- a code object's table -/
 | tbl (ps:Array Value)
 /-- any other thing,by what is true of its one object (a def of one's own: SetO a S n:=HO.ext fun h=>..) -/
 | ext (φ:Heap->Prop)
abbrev Hp:=Addr->Option HO
def upd (H:Hp)(a:Addr)(o:HO):Hp:=fun b=>if b=a then some o else H b
theorem a0c {H:Hp}{o:HO}:upd H a o a=some o:=by unfold upd; rw [if_pos rfl]
theorem a0m {H:Hp}{o:HO}(h:b ≠ a):upd H a o b=H b:=by unfold upd; rw [if_neg h]
theorem upd_upd {H:Hp}{o u:HO}:upd (upd H a o) a u=upd H a u:=by
 funext b; unfold upd; split <;> rfl
theorem a9u {H:Hp}{o u:HO}(h:H a=some o)(h':H b=some u)(d:o ≠ u):a ≠ b:=by
 intro e; subst e; rw [h] at h'; exact d (Option.some.inj h')
theorem a0h {H:Hp}{o:HO}(h:H a=some o)(h':H b=none):a ≠ b:=by
 intro e; subst e; rw [h] at h'; cases h'
section
variable (P:Program)(w:World)
def a2w (H:Hp)(h:Heap)(a:Addr):HO->Prop
 | .lst xs=>xs.length <= sizeLine/\∃ (its:List Value) (n:Nat),a2t xs its/\h.get? a=some { cls:=.type "list",data:=.seq its.toArray n }
 | .tup xs=>xs.length <= sizeLine/\∃ its:List Value,a2t xs its/\IsTup h a its.toArray
 | .dK kvs=>kvs.length <= sizeLine/\(a == sysModules) = false/\∃ vs,KV kvs vs/\h.DictOf (a1f P w) a vs
 | .dT kvs=>kvs.length <= sizeLine/\(a == sysModules) = false/\∃ xs:List (List Key × Addr × Value),
   Paired (fun (p:List Key × V) (q:List Key × Addr × Value)=>p.1=q.1/\H q.2.1=some (.tup (p.1.map kV))/\a2s p.2 q.2.2) kvs xs/\
   ∃ o es ep,h.get? a=some o/\o.ExactDict/\o.data=.dict es ep/\es.toList=xs.map (entryOfKey (tupleKind (a1f P w)))/\(xs.map (·.1)).Nodup
 | .set S n=>h.SetOf (intKind P w) a S n
 | .ins C dx fs=>H dx=some (.own a)/\fs.length <= 1000/\dx ≠ a/\h.get? a=some (PySem.W.instObj C dx)/\
   ∃ mA,h.Ns1 dx mA/\(∀ f,RelO (fs.lookup f) (mA f))/\PySem.Within mA (fs.map (·.1))
 | .own _=>∃ o,h.get? a=some o
 | .xd fs=>∃ mA,h.Ns1 a mA/\∀ f,RelO (fs.lookup f) (mA f)
 | .rng lo hi=>∃ t u v,h.get? a=some { cls:=.type "range",data:=.fields #[.int lo t,.int hi u,.int 1 v] }
 | .frz o u=>h.get? a=some o/\a2w H h a u
 | .tbl ps=>h.get? a=some { cls:=.none,data:=.fields ps }
 | .met f x=>h.get? a=some (PySem.W.methodObj (.ref f) (.ref x))
 | .ext φ=>φ h/\(∃ o,h.get? a=some o)/\∀ h1 h2:Heap,φ h1->(∀ o,h1.get? a=some o->h2.get? a=some o)->φ h2
def HOk (H:Hp)(h:Heap):Prop:=∀ a o,H a=some o->a2w P w H h a o
end
section
variable {P:Program}{w:World}{H H':Hp}{h h':Heap}{a:Addr}{o:HO}
theorem a2w.lt (x:a2w P w H h a o):a < h.objs.size:=by
 cases o with
 | lst xs=>obtain ⟨_,_,_,_,e⟩:=x; exact Heap.lt_size e
 | tup xs=>obtain ⟨_,_,_,p⟩:=x; exact p.lt
 | dK kvs=>obtain ⟨_,_,_,_,o,_,_,e,_⟩:=x; exact Heap.lt_size e
 | dT kvs=>obtain ⟨_,_,_,_,o,_,_,e,_⟩:=x; exact Heap.lt_size e
 | set S n=>obtain ⟨o,_,_,_,e,_⟩:=x; exact Heap.lt_size e
 | ins C dx fs=>obtain ⟨_,_,_,e,_⟩:=x; exact Heap.lt_size e
 | own y=>obtain ⟨_,e⟩:=x; exact Heap.lt_size e
 | xd fs=>obtain ⟨_,⟨_,_,_,e,_⟩,_⟩:=x; exact Heap.lt_size e
 | rng lo hi=>obtain ⟨_,_,_,e⟩:=x; exact Heap.lt_size e
 | frz ob u=>obtain ⟨e,_⟩:=x; exact Heap.lt_size e
 | tbl ps=>exact Heap.lt_size (show h.get? a=some _ from x)
 | met f y=>exact Heap.lt_size (show h.get? a=some _ from x)
 | ext φ=>obtain ⟨_,⟨_,e⟩,_⟩:=x; exact Heap.lt_size e
theorem Paired.mapP {α β:Type}{F G:α->β->Prop}:∀ {l₁:List α} {l₂:List β},Paired F l₁ l₂->(∀ a b,F a b->G a b)->Paired G l₁ l₂
 | _,_,.nil,_=>.nil
 | _,_,.cons r t,f=>.cons (f _ _ r) (Paired.mapP t f)
theorem a2w.stay (x:a2w P w H h a o)(k:∀ b u,(b=a\/H b=some (.own a))->h.get? b=some u->h'.get? b=some u)
  (ho:∀ b,H b=some (.own a)->H' b=some (.own a)) (ht:∀ b xs,H b=some (.tup xs)->H' b=some (.tup xs)):a2w P w H' h' a o:=by
 induction o with
 | lst xs=>obtain ⟨z,its,n,r,e⟩:=x; exact ⟨z,its,n,r,k _ _ (.inl rfl) e⟩
 | tup xs=>obtain ⟨z,its,r,ob,e,c⟩:=x; exact ⟨z,its,r,ob,k _ _ (.inl rfl) e,c⟩
 | dK kvs=>obtain ⟨z,y,vs,r,ob,es,ep,e,c⟩:=x; exact ⟨z,y,vs,r,ob,es,ep,k _ _ (.inl rfl) e,c⟩
 | dT kvs=>
  obtain ⟨z,y,xs,r,ob,es,ep,e,c⟩:=x;exact ⟨z,y,xs,Paired.mapP r fun p q z=>⟨z.1,ht _ _ z.2.1,z.2.2⟩,ob,es,ep,k _ _ (.inl rfl) e,c⟩
 | set S n=>obtain ⟨ob,es,ep,t,e,c⟩:=x; exact ⟨ob,es,ep,t,k _ _ (.inl rfl) e,c⟩
 | ins C dx fs=>
  obtain ⟨d,z,ne,e,mA,⟨od,es,ep,e2,c⟩,r⟩:=x;exact ⟨ho _ d,z,ne,k _ _ (.inl rfl) e,mA,⟨od,es,ep,k _ _ (.inr d) e2,c⟩,r⟩
 | own y=>obtain ⟨ob,e⟩:=x; exact ⟨ob,k _ _ (.inl rfl) e⟩
 | xd fs=>obtain ⟨mA,⟨od,es,ep,e,c⟩,r⟩:=x; exact ⟨mA,⟨od,es,ep,k _ _ (.inl rfl) e,c⟩,r⟩
 | rng lo hi=>obtain ⟨t,u,v,e⟩:=x; exact ⟨t,u,v,k _ _ (.inl rfl) e⟩
 | frz ob u ih=>obtain ⟨e,q⟩:=x; exact ⟨k _ _ (.inl rfl) e,ih q⟩
 | tbl ps=>
  have e:h.get? a=some { cls:=.none,data:=.fields ps }:=x;show h'.get? a=some { cls:=.none,data:=.fields ps };exact k a _ (.inl rfl) e
 | met f y=>
  have e:h.get? a=some (PySem.W.methodObj (.ref f) (.ref y)):=x;show h'.get? a=some (PySem.W.methodObj (.ref f) (.ref y));exact k a _ (.inl rfl) e
 | ext φ=>obtain ⟨p,⟨o,e⟩,st⟩:=x; exact ⟨st _ _ p fun o q=>k _ _ (.inl rfl) q,⟨o,k _ _ (.inl rfl) e⟩,st⟩
theorem HOk.lt (x:HOk P w H h)(e:H a=some o):a < h.objs.size:=(x a o e).lt
theorem HOk.fresh (x:HOk P w H h)(e:h.objs.size <= a):H a=none:=by
 cases q:H a with
 | none=>rfl
 | some u=>exact absurd (Nat.lt_of_lt_of_le (x.lt q) e) (Nat.lt_irrefl _)
theorem HOk.kept (x:HOk P w H h)(k:∀ b u,h.get? b=some u->h'.get? b=some u):HOk P w H h':=fun a o e=>
 (x a o e).stay (fun b u _ q=>k b u q) (fun _ q=>q) fun _ _ q=>q
theorem HOk.laid (x:HOk P w H h)(k:∀ b u,h.get? b=some u->h'.get? b=some u)(hp:h.objs.size <= a)(new:a2w P w (upd H a o) h' a o):HOk P w (upd H a o) h':=fun b u e=>by
 have hn:=x.fresh hp
 by_cases hb:b=a
 ·subst hb; rw [a0c] at e; cases e; exact new
 ·rw [a0m hb] at e;exact (x b u e).stay (fun c v _ q=>k c v q) (fun c q=>by rw [a0m (a0h q hn)]; exact q) fun c xs q=>by rw [a0m (a0h q hn)]; exact q
end
def Rd (H:Hp)(a:Addr)(u:HO):Prop:=H a=some u\/∃ o,H a=some (.frz o u)
theorem Rd.ok {P:Program}{w:World}{H:Hp}{u:HO}(r:Rd H a u)(x:HOk P w H h):a2w P w H h a u:=by
 rcases r with r | ⟨o,r⟩
 ·exact x a u r
 ·obtain ⟨_,q⟩:=x a _ r;exact q
def Mut:Option HO->Prop
 | some (.lst _)=>True
 | some (.dK _)=>True
 | some (.dT _)=>True
 | some (.set _ _)=>True
 | some (.ins _ _ _)=>True
 | some (.ext _)=>True
 | _=>False
section
variable {P:Program}{w:World}{H:Hp}{h h':Heap}{x e:Addr}{o':HO}
theorem HOk.write (ok:HOk P w H h)(mu:Mut (H x))(he:e=x\/H e=some (.own x))(k:∀ b u,b ≠ e->h.get? b=some u->h'.get? b=some u)(heo:∃ u,h'.get? e=some u)
  (new:a2w P w (upd H x o') h' x o'):HOk P w (upd H x o') h':=fun b u q=>by
 have nown:∀ c y,H c=some (.own y)->c ≠ x:=fun c y r z=>by subst z; rw [r] at mu; exact mu
 have ntup:∀ c xs,H c=some (.tup xs)->c ≠ x:=fun c xs r z=>by subst z; rw [r] at mu; exact mu
 by_cases hb:b=x
 ·subst hb; rw [a0c] at q; cases q; exact new
 ·rw [a0m hb] at q
  by_cases hbe:b=e
  ·have q':H b=some (.own x):=by
    rcases he with z | z
    ·exact absurd (hbe.trans z) hb
    ·rw [hbe]; exact z
   rw [q] at q'; cases q';obtain ⟨v,hv⟩:=heo;exact ⟨v,by rw [hbe]; exact hv⟩
  ·refine (ok b u q).stay (fun c v hc r=>k c v ?_ r) (fun c r=>by rw [a0m (nown c b r)]; exact r) fun c xs r=>by rw [a0m (ntup c xs r)]; exact r
   rcases hc with rfl | hc
   ·exact hbe
   ·rintro rfl
    rcases he with z | z
    ·exact nown c b hc z
    ·rw [hc] at z; cases z; exact hb rfl
end
structure Un (fs ex:List Addr)(H H':Hp)(h h':Heap):Prop where
 keep:∀ b o,h.get? b=some o->H b=none->b ∉ fs->b ∉ ex->h'.get? b=some o
 slot:∀ b o,h.get? b=some o->H b=none->b ∈ fs->b ∉ ex->∃ sl,h'.get? b=some { o with slots:=sl }
 free:∀ b o,h.get? b=some o->H b=none->b ∉ ex->H' b=none
 there:∀ b o,h.get? b=some o->b ∉ ex->∃ o',h'.get? b=some o'
 tups:∀ b xs,H b=some (.tup xs)->H' b=some (.tup xs)
 frzs:∀ b o u,H b=some (.frz o u)->H' b=some (.frz o u)
 tbls:∀ b ps,H b=some (.tbl ps)->∃ more,H' b=some (.tbl (ps ++ more))
section
variable {fs fs' ex ex':List Addr}{H H1 H2:Hp}{h h1 h2 h':Heap}{a x e:Addr}{o:HO}
theorem Un.any (u:Un fs ex H H1 h h1){ob:Obj}(q:h.get? b=some ob)(n:H b=none)(hx:b ∉ ex):∃ sl,h1.get? b=some { ob with slots:=sl }:=by
 by_cases hb:b ∈ fs
 ·exact u.slot b ob q n hb hx
 ·exact ⟨ob.slots,u.keep b ob q n hb hx⟩
theorem Un.kept (k:∀ b u,h.get? b=some u->h'.get? b=some u):Un fs ex H H h h':=
 ⟨fun b ob q _ _ _=>k b ob q,fun b ob q _ _ _=>⟨ob.slots,k b ob q⟩,fun _ _ _ n _=>n,fun b ob q _=>⟨ob,k b ob q⟩,fun _ _ q=>q,fun _ _ _ q=>q,fun _ ps q=>⟨#[],by rw [q]; simp⟩⟩
theorem Un.refl:Un fs ex H H h h:=Un.kept fun _ _ q=>q
theorem Un.laid (k:∀ b u,h.get? b=some u->h'.get? b=some u)(hp:h.objs.size <= a)(hn:H a=none):Un fs ex H (upd H a o) h h' where
 keep:=fun b u q _ _ _=>k b u q
 slot:=fun b u q _ _ _=>⟨u.slots,k b u q⟩
 free:=fun b u q n _=>by rw [a0m (Nat.ne_of_lt (Nat.lt_of_lt_of_le (Heap.lt_size q) hp))]; exact n
 there:=fun b u q _=>⟨u,k b u q⟩
 tups:=fun b xs q=>by rw [a0m (a0h q hn)]; exact q
 frzs:=fun b u xs q=>by rw [a0m (a0h q hn)]; exact q
 tbls:=fun b ps q=>⟨#[],by rw [a0m (a0h q hn),q]; simp⟩
theorem Un.write (mu:Mut (H x))(he:e=x\/H e=some (.own x))(k:∀ b u,b ≠ e->h.get? b=some u->h'.get? b=some u)(heo:∃ u,h'.get? e=some u):Un fs ex H (upd H x o) h h':=by
 have hx:∀ b,H b=none->b ≠ x:=fun b n z=>by subst z; rw [n] at mu; exact mu
 have hb:∀ b,H b=none->b ≠ e:=fun b n z=>by
  subst z
  rcases he with r | r
  ·exact hx b n r
  ·rw [n] at r; cases r
 have hm:∀ b u,H b=some u->¬ Mut (some u)->b ≠ x:=fun b u q nm z=>by subst z; rw [q] at mu; exact nm mu
 refine ⟨fun b u q n _ _=>k b u (hb b n) q,fun b u q n _ _=>⟨u.slots,k b u (hb b n) q⟩,fun b u q n _=>by rw [a0m (hx b n)]; exact n,fun b u q _=>?_,
  fun b xs q=>by rw [a0m (hm b _ q fun z=>z)]; exact q,fun b u xs q=>by rw [a0m (hm b _ q fun z=>z)]; exact q,fun b ps q=>⟨#[],by rw [a0m (hm b _ q fun z=>z),q]; simp⟩⟩
 by_cases hbe:b=e
 ·subst hbe; exact heo
 ·exact ⟨u,k b u hbe q⟩
end
def trk (h:Heap)(H:Hp):List Addr:=(List.range h.objs.size).filter fun a=>(H a).isSome
def hidT (h:Heap)(H:Hp):Heap:=PySem.W.hideAll h (trk h H)
theorem hidT_size (h:Heap)(H:Hp):(hidT h H).objs.size=h.objs.size:=PySem.W.hideAll_size _ _
theorem hidT_get {H:Hp}(e:h.get? b=some o)(n:H b=none):(hidT h H).get? b=some o:=
 PySem.W.hideAll_get _ e fun hm=>by
  have q:(H b).isSome=true:=(List.mem_filter.mp hm).2;rw [n] at q; simp at q
theorem of_hidT {H:Hp}(e:(hidT h H).get? b=some o):h.get? b=some o/\H b=none:=by
 have e':h.get? b=some o:=PySem.W.of_hideAll (trk h H) e;refine ⟨e',?_⟩
 cases q:H b with
 | none=>rfl
 | some x=>
  have hm:b ∈ trk h H:=List.mem_filter.mpr ⟨List.mem_range.mpr (Heap.lt_size e'),by simp [q]⟩;have z:(hidT h H).get? b=none:=PySem.W.hideAll_none (trk h H) hm;rw [z] at e; cases e
def allNews (g h:Heap)(L:Addr):List (Addr × Obj):=(List.range h.objs.size).filterMap fun a=>if a=L\/(g.get? a).isSome=true then none else (h.get? a).map fun o=>(a,o)
def a2e (g h:Heap)(L d:Addr):List (Addr × Obj):=(allNews g h L).filter fun p=>decide (p.1 ≠ d)
end L2
namespace L2
open PySem PySem.Spec PyProof.Rows
variable {A:Around}{g':Array GenState}{d':Drawn}{ch:List Addr}{M:Model}{i t':Nat}{x:Str}{v:V}{u:Value}
structure Mod (K:PySem.W.Frag)(mg:Str->Option Value)(base:Heap):Prop where
 kin:K.In base
 glob:base.Ns mainGlobals mg
 blt:∃ mb,base.Ns builtinsNs mb/\∀ x:Str,x ≠ "__name__"->mb x=bootBuiltins x
 nolimit:base.NoLimit
structure Cx where
 prog:Program
 w:World
 K:PySem.W.Frag
 mg:Str->Option Value
 base:Heap
 A:Around
 N:List Str
 s₀:Shared
 H₀:Hp
 env:Env
 outer:List Env
 stack:List Env
 ex:List Addr
 fn:Str->Bool
 calm:Bool
 pn:List (Addr × Obj)
 xe:Value->Shared->Prop
def frs (l:List Env):List Addr:=l.filterMap (·.frame)
abbrev Cx.fs (X:Cx):List Addr:=frs X.outer
def Vis (sc:Scope)(x:Str):Prop:=sc.names.lookup x=some .local\/sc.names.lookup x=some .cell\/sc.names.lookup x=some .free
def Loc (sc:Scope)(x:Str):Prop:=sc.names.lookup x=some .local\/sc.names.lookup x=some .cell
def Look (env:Env)(h:Heap)(m:Str->Option Value)(x:Str)(u:Value):Prop:=
 (env.kindOf x=some .local/\m x=some u)\/((env.kindOf x=some .cell\/env.kindOf x=some .free)/\∃ c,env.cells.lookup x=some c/\h.IsCell c (some u))
structure Cx.Ok (X:Cx):Prop where
 mod:Mod X.K X.mg X.base
 kind:X.env.scope.kind=.function
 glob:X.env.globals=mainGlobals
 blt:X.env.builtins=builtinsNs
 above:X.s₀.heap.objs.size <= X.env.locals
 inj:∀ x y c,X.env.cells.lookup x=some c->X.env.cells.lookup y=some c->x=y
 has:∀ x,(X.env.kindOf x=some .cell\/X.env.kindOf x=some .free)->∃ c,X.env.cells.lookup x=some c
 cab:∀ x c,X.fn x=true->X.env.cells.lookup x=some c->X.s₀.heap.objs.size <= c
 hd:X.calm=true->X.A.handled=none
 frames:X.A.frames=some X.stack
 stk:X.stack=X.outer\/(X.stack=X.env :: X.outer/\X.env.frame=some X.env.locals)
 exf:∀ b ∈ X.ex,b ≠ X.env.locals/\∀ x c,X.env.cells.lookup x=some c->c ≠ b
 bs:∀ b o,X.base.get? b=some o->X.s₀.heap.get? b=some o/\X.H₀ b=none
 bsz:X.base.objs.size <= X.s₀.heap.objs.size
 noex:∀ b o,X.base.get? b=some o->b ∉ X.ex
 exfs:∀ b ∈ X.ex,b ∉ X.fs
 funs:X.s₀.heap.FunFrames X.base X.outer
 frf:∀ b ∈ X.fs,X.H₀ b=none
structure Inv (X:Cx)(pins:List (Addr × Obj))(σ:List (Option V))(H:Hp)(s:Shared):Prop where
 ok:X.Ok
 os:s.os=X.s₀.os
 bare:AllBare s.gens
 base:Un X.fs X.ex X.H₀ H X.s₀.heap s.heap
 loc:∃ m,s.heap.Ns X.env.locals m/\∀ (i:Nat) (x:Str) (v:V),X.N[i]? = some x->σ[i]? = some (some v)->Vis X.env.scope x->∃ u,a2s v u/\Look X.env s.heap m x u
 cell:∀ x c,X.env.cells.lookup x=some c->∃ v,s.heap.IsCell c v
 free:H X.env.locals=none
 freeC:∀ x c,X.env.cells.lookup x=some c->H c=none
 pin:∀ p ∈ X.pn ++ pins,s.heap.get? p.1=some p.2/\H p.1=none/\p.1 ≠ X.env.locals/\p.1 ∉ X.fs/\∀ v,p.2.data ≠ .cell v
 hok:HOk X.prog X.w H s.heap
 len:σ.length=X.N.length
section
variable {X:Cx}{pins:List (Addr × Obj)}{σ:List (Option V)}{H H':Hp}{s:Shared}{h':Heap}
theorem Cx.Ok.nofr (ok:X.Ok){b:Addr}{o:Obj}(e:X.base.get? b=some o):b ∉ X.fs:=fun hb=>by
 have:=(ok.funs.mem hb).1;rw [e] at this; cases this
theorem Inv.bs (I:Inv X pins σ H s):∀ b o,X.base.get? b=some o->s.heap.get? b=some o/\H b=none:=fun b o e=>
 ⟨I.base.keep b o (I.ok.bs b o e).1 (I.ok.bs b o e).2 (I.ok.nofr e) (I.ok.noex b o e),I.base.free b o (I.ok.bs b o e).1 (I.ok.bs b o e).2 (I.ok.noex b o e)⟩
theorem Inv.bk (I:Inv X pins σ H s):∀ b o,X.base.get? b=some o->s.heap.get? b=some o:=fun b o e=>(I.bs b o e).1
theorem Inv.mod (I:Inv X pins σ H s):Mod X.K X.mg X.base:=I.ok.mod
theorem Inv.kIn (I:Inv X pins σ H s):X.K.In s.heap:=I.ok.mod.kin.keeps I.bk
theorem Inv.lt (I:Inv X pins σ H s):X.env.locals < s.heap.objs.size:=let ⟨_,hn,_⟩:=I.loc; hn.lt
theorem Inv.sz (I:Inv X pins σ H s):X.s₀.heap.objs.size <= s.heap.objs.size:=Nat.le_trans I.ok.above (Nat.le_of_lt I.lt)
theorem Inv.nofs (I:Inv X pins σ H s){a:Addr}(h:s.heap.objs.size <= a):a ∉ X.fs:=fun hb=>by
 obtain ⟨_,o,ho,_⟩:=I.ok.funs.mem hb;exact absurd (Nat.lt_of_lt_of_le (Heap.lt_size ho) (Nat.le_trans I.sz h)) (Nat.lt_irrefl _)
theorem Inv.cne (I:Inv X pins σ H s):∀ x c,X.env.cells.lookup x=some c->c ≠ X.env.locals:=fun x c e z=>by
 obtain ⟨v,o,ho,hd⟩:=I.cell x c e;obtain ⟨m,⟨o',es,ep,ho',hd',_⟩,_⟩:=I.loc;rw [z,ho'] at ho; cases ho; rw [hd'] at hd; cases hd
theorem Inv.funs (I:Inv X pins σ H s):s.heap.FunFrames X.base X.outer:=by
 have all:∀ (l:List Env),(∀ b ∈ frs l,b ∈ X.fs)->X.s₀.heap.FunFrames X.base l->s.heap.FunFrames X.base l:=by
  intro l
  induction l with
  | nil=>intro _ _; trivial
  | cons env r ih=>
   intro hs hl;obtain ⟨hk,⟨L,o,hf,hn,ho,hd⟩,hr⟩:=hl;have hL:L ∈ X.fs:=hs L (by unfold frs; rw [List.filterMap_cons,hf]; exact List.mem_cons_self);obtain ⟨sl,e⟩:=I.base.slot L o ho (I.ok.frf L hL) hL fun z=>I.ok.exfs L z hL;exact ⟨hk,⟨L,_,hf,hn,e,hd⟩,ih (fun b hb=>hs b (by unfold frs; rw [List.filterMap_cons,hf]; exact List.mem_cons_of_mem _ hb)) hr⟩
 exact all X.outer (fun _ hb=>hb) I.ok.funs
theorem Inv.stack (I:Inv X pins σ H s):s.heap.FunFrames X.base X.stack:=by
 rcases I.ok.stk with e | ⟨e,hf⟩
 ·rw [e]; exact I.funs
 ·rw [e];obtain ⟨m,hn,_⟩:=I.loc;refine .cons (by rw [I.ok.kind]; decide) hf hn ?_ I.funs;exact Heap.get?_none_of_le (Nat.le_trans I.ok.bsz I.ok.above)
theorem Inv.stkSub (I:Inv X pins σ H s):∀ b ∈ frs X.stack,b ∈ X.env.locals :: X.fs:=fun b hb=>by
 rcases I.ok.stk with e | ⟨e,hf⟩
 ·rw [e] at hb; exact List.mem_cons_of_mem _ hb
 ·rw [e] at hb;unfold frs at hb;rw [List.filterMap_cons,hf] at hb;exact hb
theorem Inv.stkFree (I:Inv X pins σ H s):∀ b ∈ frs X.stack,H b=none:=fun b hb=>by
 rcases List.mem_cons.mp (I.stkSub b hb) with e | hb
 ·rw [e]; exact I.free
 ·obtain ⟨_,o,ho,_⟩:=I.ok.funs.mem hb;exact I.base.free b o ho (I.ok.frf b hb) fun z=>I.ok.exfs b z hb
theorem Inv.step {g':Array GenState}{t':Nat}{d':Drawn}(I:Inv X pins σ H s)
  (hch:∀ b ∈ ch,(b ∈ X.ex\/X.s₀.heap.objs.size <= b)/\b ≠ X.env.locals/\(∀ x c,X.env.cells.lookup x=some c->c ≠ b)/\∀ p ∈ X.pn ++ pins,p.1 ≠ b)
  (keep:∀ b o,b ≠ X.env.locals->b ∉ X.fs->b ∉ ch->s.heap.get? b=some o->H b=none->h'.get? b=some o)
  (slot:∀ b o,b ≠ X.env.locals->b ∈ X.fs->b ∉ ch->s.heap.get? b=some o->H b=none->∃ sl,h'.get? b=some { o with slots:=sl }) (free:∀ b o,b ∉ ch->s.heap.get? b=some o->H b=none->H' b=none)
  (there:∀ b o,b ∉ ch->s.heap.get? b=some o->∃ o',h'.get? b=some o')
  (tups:∀ b xs,H b=some (.tup xs)->H' b=some (.tup xs)) (frzs:∀ b o u,H b=some (.frz o u)->H' b=some (.frz o u)) (tbls:∀ b ps,H b=some (.tbl ps)->∃ more,H' b=some (.tbl (ps ++ more)))
  (ns:∀ m,s.heap.Ns X.env.locals m->h'.Ns X.env.locals m) (hok:HOk X.prog X.w H' h') (hg:AllBare g') :
  Inv X pins σ H' { s with heap:=h',gens:=g',drawn:=d',toks:=t' }:=by
 have neL:∀ b o,X.s₀.heap.get? b=some o->b ≠ X.env.locals:=fun b o e=>Nat.ne_of_lt (Nat.lt_of_lt_of_le (Heap.lt_size e) I.ok.above)
 have neC:∀ b o,X.s₀.heap.get? b=some o->b ∉ X.ex->b ∉ ch:=fun b o e hx hb=>by
  rcases (hch b hb).1 with z | z
  ·exact hx z
  ·exact absurd (Nat.lt_of_lt_of_le (Heap.lt_size e) z) (Nat.lt_irrefl _)
 have cellK:∀ x c,X.env.cells.lookup x=some c->∀ v,s.heap.IsCell c v->h'.IsCell c v:=fun x c e v ⟨o,ho,hd⟩=>by
  have nch:c ∉ ch:=fun z=>(hch c z).2.2.1 x c e rfl
  by_cases hc:c ∈ X.fs
  ·obtain ⟨sl,q⟩:=slot c o (I.cne x c e) hc nch ho (I.freeC x c e);exact ⟨_,q,hd⟩
  ·exact ⟨o,keep c o (I.cne x c e) hc nch ho (I.freeC x c e),hd⟩
 refine ⟨I.ok,I.os,hg,⟨fun b o e n hb hx=>?_,fun b o e n hb hx=>?_,fun b o e n hx=>?_,fun b o e hx=>?_,fun b xs e=>tups b xs (I.base.tups b xs e),fun b o xs e=>frzs b o xs (I.base.frzs b o xs e),fun b ps e=>?_⟩,?_,fun x c e=>?_,?_,fun x c e=>?_,fun p hp=>?_,hok,I.len⟩
 ·exact keep b o (neL b o e) hb (neC b o e hx) (I.base.keep b o e n hb hx) (I.base.free b o e n hx)
 ·obtain ⟨sl,e1⟩:=I.base.slot b o e n hb hx;obtain ⟨sl',e2⟩:=slot b _ (neL b o e) hb (neC b o e hx) e1 (I.base.free b o e n hx);exact ⟨sl',e2⟩
 ·obtain ⟨o',e1⟩:=I.base.there b o e hx;exact free b o' (neC b o e hx) e1 (I.base.free b o e n hx)
 ·obtain ⟨o',e1⟩:=I.base.there b o e hx;exact there b o' (neC b o e hx) e1
 ·obtain ⟨m1,e1⟩:=I.base.tbls b ps e;obtain ⟨m2,e2⟩:=tbls b _ e1;exact ⟨m1 ++ m2,by rw [e2,Array.append_assoc]⟩
 ·obtain ⟨m,hn,hl⟩:=I.loc;refine ⟨m,ns m hn,fun i x v e1 e2 e3=>?_⟩;obtain ⟨u,r,l⟩:=hl i x v e1 e2 e3;refine ⟨u,r,?_⟩
  rcases l with l | ⟨k,c,e,z⟩
  ·exact .inl l
  ·exact .inr ⟨k,c,e,cellK x c e _ z⟩
 ·obtain ⟨v,z⟩:=I.cell x c e;exact ⟨v,cellK x c e v z⟩
 ·obtain ⟨m,⟨o,_,_,ho,_⟩,_⟩:=I.loc;exact free _ o (fun z=>(hch _ z).2.1 rfl) ho I.free
 ·obtain ⟨v,o,ho,hd⟩:=I.cell x c e;exact free c o (fun z=>(hch c z).2.2.1 x c e rfl) ho (I.freeC x c e)
 ·obtain ⟨e,n,ne,nf,d⟩:=I.pin p hp;have nch:p.1 ∉ ch:=fun z=>(hch p.1 z).2.2.2 p hp rfl;exact ⟨keep p.1 p.2 ne nf nch e n,free p.1 p.2 nch e n,ne,nf,d⟩
theorem Inv.un (I:Inv X pins σ H s)(u:Un X.fs [] H H' s.heap h')(hok:HOk X.prog X.w H' h'):Inv X pins σ H' { s with heap:=h',toks:=t' }:=by
 obtain ⟨m,⟨o,es,ep,ho,r⟩,_⟩:=id I.loc;obtain ⟨sl,hL⟩:=u.any ho I.free (by simp)
 exact I.step (g':=s.gens) (d':=s.drawn) (ch:=[]) (fun _ z=>nomatch z) (fun b o _ hb _ e n=>u.keep b o e n hb (by simp)) (fun b o _ hb _ e n=>u.slot b o e n hb (by simp)) (fun b o _ e n=>u.free b o e n (by simp)) (fun b o _ e=>u.there b o e (by simp)) u.tups u.frzs u.tbls (fun m' hm=>by
  obtain ⟨o',es',ep',ho',r'⟩:=hm;rw [ho] at ho'; cases ho'
  exact ⟨_,es',ep',hL,r'⟩) hok I.bare
theorem Inv.call (I:Inv X pins σ H s)(u:Un (frs X.stack) ch H H' s.heap h')(hok:HOk X.prog X.w H' h')(hg:AllBare g')
  (hch:∀ b ∈ ch,(b ∈ X.ex\/X.s₀.heap.objs.size <= b)/\b ≠ X.env.locals/\(∀ x c,X.env.cells.lookup x=some c->c ≠ b)/\∀ p ∈ X.pn ++ pins,p.1 ≠ b) :
  Inv X pins σ H' { s with heap:=h',gens:=g',drawn:=d',toks:=t' }:=by
 obtain ⟨m,⟨o,es,ep,ho,r⟩,_⟩:=id I.loc;obtain ⟨sl,hL⟩:=u.any ho I.free fun z=>(hch _ z).2.1 rfl
 exact I.step (ch:=ch) hch (fun b o hL hb hc e n=>u.keep b o e n (fun z=>(List.mem_cons.mp (I.stkSub b z)).elim hL hb) hc) (fun b o _ _ hc e n=>u.any e n hc) (fun b o hc e n=>u.free b o e n hc) (fun b o hc e=>u.there b o e hc) u.tups u.frzs u.tbls (fun m' hm=>by
  obtain ⟨o',es',ep',ho',r'⟩:=hm;rw [ho] at ho'; cases ho'
  exact ⟨_,es',ep',hL,r'⟩) hok hg
theorem Inv.turned {it:Addr}(I:Inv X pins σ H s)(k:∀ b o,b ≠ it->s.heap.get? b=some o->h'.get? b=some o)(hn:H it=none)(hL:it ≠ X.env.locals)
  (h1:it ∈ X.ex\/X.s₀.heap.objs.size <= it) (h2:∀ x c,X.env.cells.lookup x=some c->c ≠ it) (h3:∀ p ∈ X.pn ++ pins,p.1 ≠ it):Inv X pins σ H { s with heap:=h',toks:=t' }:=by
 have nit:∀ b u,H b=some u->b ≠ it:=fun b u e z=>by rw [z,hn] at e; cases e
 refine I.step (g':=s.gens) (d':=s.drawn) (ch:=[it]) (fun b hb=>?_) (fun b o _ _ hc e _=>k b o (fun z=>hc (by simp [z])) e) (fun b o _ _ hc e _=>⟨o.slots,k b o (fun z=>hc (by simp [z])) e⟩) (fun _ _ _ _ n=>n)
  (fun b o hc e=>⟨o,k b o (fun z=>hc (by simp [z])) e⟩) (fun _ _ e=>e) (fun _ _ _ e=>e) (fun b ps e=>⟨#[],by rw [e]; simp⟩) (fun m hm=>?_) (fun b u e=>?_) I.bare
 ·have e:b=it:=by simpa using hb
  subst e;exact ⟨h1,hL,h2,h3⟩
 ·obtain ⟨o,es,ep,ho,r⟩:=hm;exact ⟨o,es,ep,k _ o (Ne.symm hL) ho,r⟩
 ·refine (I.hok b u e).stay (fun c v hc q=>k c v ?_ q) (fun _ q=>q) fun _ _ q=>q
  rcases hc with z | z
  ·rw [z]; exact nit b u e
  ·exact nit c _ z
theorem Inv.tok (I:Inv X pins σ H s)(t:Nat):Inv X pins σ H { s with toks:=t }:=I.un (h':=s.heap) (t':=t) Un.refl I.hok
theorem Inv.kept {t':Nat}(I:Inv X pins σ H s)(k:∀ b u,s.heap.get? b=some u->h'.get? b=some u):Inv X pins σ H { s with heap:=h',toks:=t' }:=I.un (Un.kept k) (I.hok.kept k)
theorem Inv.laid {a:Addr}{o:HO}{t':Nat}(I:Inv X pins σ H s)(k:∀ b u,s.heap.get? b=some u->h'.get? b=some u)(hp:s.heap.objs.size <= a)(new:a2w X.prog X.w (upd H a o) h' a o) :
  Inv X pins σ (upd H a o) { s with heap:=h',toks:=t' }:=I.un (Un.laid k hp (I.hok.fresh hp)) (I.hok.laid k hp new)
theorem Inv.write {x e:Addr}{o:HO}{t':Nat}(I:Inv X pins σ H s)(mu:Mut (H x))(he:e=x\/H e=some (.own x))(k:∀ b u,b ≠ e->s.heap.get? b=some u->h'.get? b=some u)(heo:∃ u,h'.get? e=some u)
  (new:a2w X.prog X.w (upd H x o) h' x o):Inv X pins σ (upd H x o) { s with heap:=h',toks:=t' }:=I.un (Un.write mu he k heo) (I.hok.write mu he k heo new)
theorem Inv.pins_of {pins':List (Addr × Obj)}(I:Inv X pins σ H s)(h:∀ p ∈ pins',s.heap.get? p.1=some p.2/\H p.1=none/\p.1 ≠ X.env.locals/\p.1 ∉ X.fs/\∀ v,p.2.data ≠ .cell v):Inv X pins' σ H s:=
 ⟨I.ok,I.os,I.bare,I.base,I.loc,I.cell,I.free,I.freeC,fun p hp=>(List.mem_append.mp hp).elim (fun z=>I.pin p (List.mem_append_left _ z)) (h p),I.hok,I.len⟩
theorem nodup_ix {N:List Str}(hN:N.Nodup){j:Nat}(a:N[i]? = some x)(b:N[j]? = some x):i=j:=by
 obtain ⟨h1,e1⟩:=List.getElem?_eq_some_iff.mp a;obtain ⟨h2,e2⟩:=List.getElem?_eq_some_iff.mp b;exact (List.getElem_inj hN).mp (e1.trans e2.symm)
theorem store_ok2 {E:Value->Shared->Prop}{Q:Unit->Shared->Prop}(I:Inv X pins σ H s)(hN:X.N.Nodup)(hi:X.N[i]? = some x)(hx:Loc X.env.scope x)(r:a2s v u)
  (h:∀ s',Inv X pins (σ.set i (some v)) H s'->(∃ a,Heap.SameBut a s.heap s'.heap/\(a=X.env.locals\/X.env.cells.lookup x=some a))->Q () s') (hf:X.fn x=true\/X.env.scope.names.lookup x=some .local:=by first | exact .inl rfl | exact .inr rfl | assumption):wpAny M A (storeName X.env x u) Q E s:=by
 obtain ⟨m,hn,hl⟩:=id I.loc;have hcls:(X.env.scope.kind == .class || (X.env.scope.kind == .module && X.env.locals != X.env.globals)) = false:=by rw [I.ok.kind]; rfl
 have hiσ:i < σ.length:=by rw [I.len]; exact (List.getElem?_eq_some_iff.mp hi).1
 have cne:=I.cne
 have tracked:∀ {a:Addr} {h':Heap},(∃ o,s.heap.get? a=some o/\H a=none)->Heap.SameBut a s.heap h'->HOk X.prog X.w H h':=fun {a h'} ha hs b ob e=>by
  obtain ⟨_,_,hfree⟩:=ha;refine (I.hok b ob e).stay (fun c w' hc q=>(hs.2 c ?_).trans q) (fun _ q=>q) fun _ _ q=>q;rintro rfl
  rcases hc with rfl | hc
  ·rw [hfree] at e; cases e
  ·rw [hfree] at hc; cases hc
 rcases hx with hk | hk
 ·refine wpAny_storeName_local hk hn (fun h' hn' hs=>?_) hcls;obtain ⟨oL,_,_,hoL,_⟩:=id hn;refine h _ ⟨I.ok,I.os,I.bare,⟨fun b o e n hb hx=>?_,fun b o e n hb hx=>?_,I.base.free,fun b o e hx=>?_,I.base.tups,I.base.frzs,I.base.tbls⟩,⟨_,hn',fun j y v' e1 e2 e3=>?_⟩,fun y c e=>?_,I.free,I.freeC,fun p hp=>?_,tracked ⟨oL,hoL,I.free⟩ hs,by simpa using I.len⟩ ⟨_,hs,.inl rfl⟩
  ·exact (hs.2 b (Nat.ne_of_lt (Nat.lt_of_lt_of_le (Heap.lt_size e) I.ok.above))).trans (I.base.keep b o e n hb hx)
  ·obtain ⟨sl,e1⟩:=I.base.slot b o e n hb hx;exact ⟨sl,(hs.2 b (Nat.ne_of_lt (Nat.lt_of_lt_of_le (Heap.lt_size e) I.ok.above))).trans e1⟩
  ·obtain ⟨o',e1⟩:=I.base.there b o e hx;exact ⟨o',(hs.2 b (Nat.ne_of_lt (Nat.lt_of_lt_of_le (Heap.lt_size e) I.ok.above))).trans e1⟩
  ·by_cases hj:j=i
   ·subst hj;rw [hi] at e1; cases e1;rw [List.getElem?_set_self hiσ] at e2;cases e2;exact ⟨u,r,.inl ⟨hk,by simp⟩⟩
   ·rw [List.getElem?_set_ne (Ne.symm hj)] at e2;obtain ⟨u',r',q⟩:=hl j y v' e1 e2 e3;refine ⟨u',r',?_⟩
    rcases q with ⟨k,e⟩ | ⟨k,c,e,z⟩
    ·refine .inl ⟨k,?_⟩;have:y ≠ x:=fun e=>hj (nodup_ix hN e1 (e ▸ hi));simp [this,e]
    ·exact .inr ⟨k,c,e,z.sameBut hs (cne y c e)⟩
  ·obtain ⟨w',z⟩:=I.cell y c e;exact ⟨w',z.sameBut hs (cne y c e)⟩
  ·obtain ⟨e,n,ne,nf,d⟩:=I.pin p hp;exact ⟨(hs.2 p.1 ne).trans e,n,ne,nf,d⟩
 ·have hfn:X.fn x=true:=by
   rcases hf with z | z
   ·exact z
   ·rw [z] at hk; cases hk
  obtain ⟨c,hc⟩:=I.ok.has x (.inl hk);obtain ⟨w',z⟩:=I.cell x c hc;refine wpAny_storeName_cell I.ok.kind hk hc z (fun h' hc' hs=>?_);obtain ⟨oc,hoc,hocd⟩:=id z;refine h { s with heap:=h' } ⟨I.ok,I.os,I.bare,⟨fun b o e n hb hx=>?_,fun b o e n hb hx=>?_,I.base.free,fun b o e hx=>?_,I.base.tups,I.base.frzs,I.base.tbls⟩,⟨m,hn.sameBut hs (Ne.symm (cne x c hc)),fun j y v' e1 e2 e3=>?_⟩,fun y c' e=>?_,I.free,I.freeC,fun p hp=>?_,tracked ⟨oc,hoc,I.freeC x c hc⟩ hs,by simpa using I.len⟩ ⟨c,hs,.inr hc⟩
  ·exact (hs.2 b (Nat.ne_of_lt (Nat.lt_of_lt_of_le (Heap.lt_size e) (I.ok.cab x c hfn hc)))).trans (I.base.keep b o e n hb hx)
  ·obtain ⟨sl,e1⟩:=I.base.slot b o e n hb hx;exact ⟨sl,(hs.2 b (Nat.ne_of_lt (Nat.lt_of_lt_of_le (Heap.lt_size e) (I.ok.cab x c hfn hc)))).trans e1⟩
  ·obtain ⟨o',e1⟩:=I.base.there b o e hx;exact ⟨o',(hs.2 b (Nat.ne_of_lt (Nat.lt_of_lt_of_le (Heap.lt_size e) (I.ok.cab x c hfn hc)))).trans e1⟩
  ·by_cases hj:j=i
   ·subst hj;rw [hi] at e1; cases e1;rw [List.getElem?_set_self hiσ] at e2;cases e2;exact ⟨u,r,.inr ⟨.inl hk,c,hc,hc'⟩⟩
   ·rw [List.getElem?_set_ne (Ne.symm hj)] at e2;obtain ⟨u',r',q⟩:=hl j y v' e1 e2 e3;refine ⟨u',r',?_⟩
    rcases q with q | ⟨k,c',e,z'⟩
    ·exact .inl q
    ·refine .inr ⟨k,c',e,z'.sameBut hs ?_⟩;rintro rfl;exact hj (nodup_ix hN e1 (I.ok.inj _ _ _ e hc ▸ hi))
  ·by_cases hcc:c' = c
   ·subst hcc; exact ⟨_,hc'⟩
   ·obtain ⟨w2,z2⟩:=I.cell y c' e;exact ⟨w2,z2.sameBut hs hcc⟩
  ·obtain ⟨e,n,ne,nf,d⟩:=I.pin p hp;refine ⟨(hs.2 p.1 ?_).trans e,n,ne,nf,d⟩;intro q;rw [q,hoc] at e;have q':oc=p.2:=Option.some.inj e;exact d w' (by rw [<- q']; exact hocd)
theorem store_ok {E:Value->Shared->Prop}{Q:Unit->Shared->Prop}(I:Inv X pins σ H s)(hN:X.N.Nodup)(hi:X.N[i]? = some x)(hx:Loc X.env.scope x)(r:a2s v u)
  (h:∀ s',Inv X pins (σ.set i (some v)) H s'->Q () s') (hf:X.fn x=true\/X.env.scope.names.lookup x=some .local:=by first | exact .inl rfl | exact .inr rfl | assumption):wpAny M A (storeName X.env x u) Q E s:=
 store_ok2 I hN hi hx r (fun s' I' _=>h s' I') hf
theorem Inv.call' {s':Shared}(I:Inv X pins σ H s)(ho:s'.os=s.os)(u:Un (frs X.stack) ch H H' s.heap s'.heap)(hok:HOk X.prog X.w H' s'.heap)(hg:AllBare s'.gens)
  (hch:∀ b ∈ ch,(b ∈ X.ex\/X.s₀.heap.objs.size <= b)/\b ≠ X.env.locals/\(∀ x c,X.env.cells.lookup x=some c->c ≠ b)/\∀ p ∈ X.pn ++ pins,p.1 ≠ b):Inv X pins σ H' s':=by
 obtain ⟨h',g',d',t',o'⟩:=s';have e:o' = s.os:=ho;subst e;exact I.call (g':=g') (t':=t') (d':=d') u hok hg hch
end
abbrev XK:=Value->Option Addr->Hp->Prop
abbrev St:=List (Option V)
abbrev VK:=V->Hp->Prop
abbrev TE:=St->Hp->VK->Prop
abbrev TT:=St->Hp->(Bool->Hp->Prop)->Prop
abbrev TA:=St->Hp->(List V->Hp->Prop)->Prop
structure b0y where
 nx:St->Hp->Prop
 rt:VK
 bk:St->Hp->Prop:=fun _ _=>False
 ct:St->Hp->Prop:=fun _ _=>False
abbrev TS:=b0y->St->Hp->Prop
def EP (X:Cx)(pins:List (Addr × Obj))(σ:St)(Q:VK)(u:Value)(s':Shared):Prop:=∃ v H',Inv X pins σ H' s'/\a2s v u/\Q v H'
def TP (X:Cx)(pins:List (Addr × Obj))(σ:St)(Q:Bool->Hp->Prop)(b:Bool)(s':Shared):Prop:=∃ H',Inv X pins σ H' s'/\Q b H'
def AP (X:Cx)(pins:List (Addr × Obj))(σ:St)(Q:List V->Hp->Prop)(us:List Value)(s':Shared):Prop:=∃ vs H',Inv X pins σ H' s'/\a2t vs us/\Q vs H'
def SP (X:Cx)(pins:List (Addr × Obj))(D:b0y)(f:Flow)(s':Shared):Prop:=
 match f with
 | .next=>∃ σ' H',Inv X pins σ' H' s'/\D.nx σ' H'
 | .brk=>∃ σ' H',Inv X pins σ' H' s'/\D.bk σ' H'
 | .cont=>∃ σ' H',Inv X pins σ' H' s'/\D.ct σ' H'
 | .ret u=>∃ v σ' H',Inv X pins σ' H' s'/\a2s v u/\D.rt v H'
def PE (X:Cx)(e:Expr)(t:TE):Prop:=
 ∀ (pins:List (Addr × Obj)) (s:Shared) (σ:St) (H:Hp) (Q:VK),Inv X pins σ H s->t σ H Q->wpAny (model X.prog X.w) X.A (eval e X.env) (EP X pins σ Q) X.xe s
def PT (X:Cx)(e:Expr)(t:TT):Prop:=
 ∀ (pins:List (Addr × Obj)) (s:Shared) (σ:St) (H:Hp) (Q:Bool->Hp->Prop),Inv X pins σ H s->t σ H Q->wpAny (model X.prog X.w) X.A (isTrue e X.env (eval e X.env)) (TP X pins σ Q) X.xe s
def PW (X:Cx)(e:Expr)(t:TT):Prop:=
 ∀ (whole:Sem Value) (pins:List (Addr × Obj)) (s:Shared) (σ:St) (H:Hp) (Q:Bool->Hp->Prop),Inv X pins σ H s->t σ H Q->wpAny (model X.prog X.w) X.A (isTrue e X.env whole) (TP X pins σ Q) X.xe s
theorem PW.pt {X:Cx}{e:Expr}{t:TT}(h:PW X e t):PT X e t:=h _
def PA (X:Cx)(es:List Expr)(t:TA):Prop:=
 ∀ (pos:Pos) (pins:List (Addr × Obj)) (s:Shared) (σ:St) (H:Hp) (Q:List V->Hp->Prop),Inv X pins σ H s->t σ H Q->wpAny (model X.prog X.w) X.A (spliced (backTo pos (starEach es X.env))) (AP X pins σ Q) X.xe s
def PS (X:Cx)(st:Stmt)(t:TS):Prop:=
 ∀ (pins:List (Addr × Obj)) (s:Shared) (σ:St) (H:Hp) (D:b0y),Inv X pins σ H s->t D σ H->wpAny (model X.prog X.w) X.A (exec st X.env) (SP X pins D) X.xe s
def PSs (X:Cx)(st:List Stmt)(t:TS):Prop:=
 ∀ (pins:List (Addr × Obj)) (s:Shared) (σ:St) (H:Hp) (D:b0y),Inv X pins σ H s->t D σ H->wpAny (model X.prog X.w) X.A (execs st X.env) (SP X pins D) X.xe s
theorem thn {α:Type}{t:Sem α}{Q Q':α->Shared->Prop}{E:Value->Shared->Prop}{s:Shared}(h:wpAny M A t Q E s)(hQ:∀ a s,Q a s->Q' a s):wpAny M A t Q' E s:=wpAny_mono h hQ fun _ _ x=>x
end L2
namespace L2
open PySem PySem.Spec PyProof.Rows
variable {H:Hp}{pins:List (Addr × Obj)}{pos:Pos}{s:Shared}{σ:St}{x:Str}{t:TE}{v:V}{u:Value}
section
variable {X:Cx}
def tVar (i:Nat):TE:=fun σ H Q=>∃ v,σ[i]? = some (some v)/\Q v H
def tC (v:V):TE:=fun _ H Q=>Q v H
theorem pe_var {i:Nat}(hN:X.N[i]? = some x)(hv:Vis X.env.scope x)(hd:(x == ("__debug__":Str)) = false:=by decide)(hcd:(x == ("__classdict__":Str)) = false:=by decide):PE X (.Name x pos) (tVar i):=by
 intro pins s σ H Q I h;obtain ⟨v,e,h⟩:=h;obtain ⟨m,hn,hl⟩:=I.loc;obtain ⟨u,r,l⟩:=hl i x v hN e hv;have fin:EP X pins σ Q u s:=⟨v,H,I,r,h⟩
 rcases l with ⟨hk,hm⟩ | ⟨hk,c,hc,hcell⟩
 ·exact wpAny_Name (wpAny_loadName_local I.ok.kind hk hn hm fin) hd
 ·rcases hk with hk | hk
  ·exact wpAny_Name (wpAny_loadName_cell I.ok.kind hk hc hcell fin) hd
  ·exact wpAny_Name (wpAny_loadName_free I.ok.kind hk hc hcell fin hcd) hd
theorem a0d {i j pos}:PE X (.Constant (.int i) j pos) (tC (.int i)):=fun _ _ _ H _ I h=>wpAny_Constant_int ⟨.int i,H,I.tok _,⟨_,rfl⟩,h⟩
theorem pe_bl {b j pos}:PE X (.Constant (.bool b) j pos) (tC (.bl b)):=fun _ _ _ H _ I h=>Constant_bool ⟨.bl b,H,I,rfl,h⟩
theorem a1j {x j pos}:PE X (.Constant (.str x) j pos) (tC (.str x)):=fun _ _ _ H _ I h=>Calls.Constant_str ⟨.str x,H,I.tok _,⟨_,rfl⟩,h⟩
def Gl (X:Cx)(x:Str):Prop:=X.env.kindOf x=some .globalImplicit
theorem b3c {E:Value->Shared->Prop}{Q:Value->Shared->Prop}(I:Inv X pins σ H s)(hg:Gl X x)(hm:X.mg x=some u)(h:Q u s)
  (hd:(x == ("__debug__":Str)) = false:=by decide):wpAny (model X.prog X.w) X.A (eval (.Name x pos) X.env) Q E s:=
 Calls.Name_function_global I.ok.kind hg (Calls.loadGlobal_global (by rw [I.ok.glob]; exact I.mod.glob.keeps I.bk) hm h) hd
theorem ld_blt {E:Value->Shared->Prop}{Q:Value->Shared->Prop}(I:Inv X pins σ H s)(hg:Gl X x)(hm:X.mg x=none)(hv:bootBuiltins x=some u)(h:Q u s)
  (hn:x ≠ "__name__":=by decide) (hd:(x == ("__debug__":Str)) = false:=by decide):wpAny (model X.prog X.w) X.A (eval (.Name x pos) X.env) Q E s:=by
 obtain ⟨mb,h1,h2⟩:=I.mod.blt;exact Calls.Name_function_global I.ok.kind hg (Calls.loadGlobal_builtin (by rw [I.ok.glob]; exact I.mod.glob.keeps I.bk) hm (by rw [I.ok.blt]; exact h1.keeps I.bk) ((h2 x hn).trans hv) h) hd
theorem pe_glob (hg:Gl X x)(hm:X.mg x=some u)(r:a2s v u)(hd:(x == ("__debug__":Str)) = false:=by decide):PE X (.Name x pos) (tC v):=
 fun _ _ _ H _ I h=>b3c I hg hm ⟨v,H,I,r,h⟩ hd
theorem pe_bltn (hg:Gl X x)(hm:X.mg x=none)(hv:bootBuiltins x=some u)(r:a2s v u)(hn:x ≠ "__name__":=by decide)(hd:(x == ("__debug__":Str)) = false:=by decide):PE X (.Name x pos) (tC v):=
 fun _ _ _ H _ I h=>ld_blt I hg hm hv ⟨v,H,I,r,h⟩ hn hd
variable {a b:Expr}{ta tb:TE}{pos:Pos}
def tB (t:TE):TT:=fun σ H Q=>t σ H fun x H1=>∃ c,x=.bl c/\Q c H1
theorem a7p {e:Expr}(h:PE X e t)(he:∀ whole,isTrue e X.env whole=(do let v <- whole; standAt e.pos; holding [v] (truthy v)):=by intro _; rfl):PT X e (tB t):=by
 intro pins s σ H Q I hw;refine isTrue_plain (thn (h pins s σ H _ I hw) fun v s1 ⟨x,H1,I1,r1,q1⟩=>?_) (he _);obtain ⟨d,rfl,q⟩:=q1;cases r1;exact wpAny_truthy_bool ⟨H1,I1,q⟩
variable {tA tB':TT}{a2e:List Expr}
def tAnd (t u:TT):TT:=fun σ H Q=>t σ H fun c H1=>if c=true then u σ H1 Q else Q false H1
def tOr (t u:TT):TT:=fun σ H Q=>t σ H fun c H1=>if c=true then Q true H1 else u σ H1 Q
def tNot (t:TT):TT:=fun σ H Q=>t σ H fun c H1=>Q (!c) H1
theorem pw_and1 (ha:PT X a tA):PW X (.BoolOp .And [a] pos) tA:=by
 intro wh pins s σ H Q I h;refine isTrue_and (thn (ha pins s σ H Q I h) fun c s1 e=>?_)
 cases c with
 | true=>exact isTrue_and_nil e
 | false=>exact e
theorem pw_or1 (ha:PT X a tA):PW X (.BoolOp .Or [a] pos) tA:=by
 intro wh pins s σ H Q I h;refine isTrue_or (thn (ha pins s σ H Q I h) fun c s1 e=>?_)
 cases c with
 | false=>exact isTrue_or_nil e
 | true=>exact e
theorem pw_and (ha:PT X a tA)(hb:PW X (.BoolOp .And (b :: a2e) pos) tB'):PW X (.BoolOp .And (a :: b :: a2e) pos) (tAnd tA tB'):=by
 intro wh pins s σ H Q I h;refine isTrue_and (thn (ha pins s σ H _ I h) fun c s1 ⟨H1,I1,q1⟩=>?_)
 cases c with
 | true=>exact hb wh pins s1 σ H1 Q I1 q1
 | false=>exact ⟨H1,I1,q1⟩
theorem pw_or (ha:PT X a tA)(hb:PW X (.BoolOp .Or (b :: a2e) pos) tB'):PW X (.BoolOp .Or (a :: b :: a2e) pos) (tOr tA tB'):=by
 intro wh pins s σ H Q I h;refine isTrue_or (thn (ha pins s σ H _ I h) fun c s1 ⟨H1,I1,q1⟩=>?_)
 cases c with
 | true=>exact ⟨H1,I1,q1⟩
 | false=>exact hb wh pins s1 σ H1 Q I1 q1
theorem b0m (ha:PT X a tA):PT X (.UnaryOp .Not a pos) (tNot tA):=by
 intro pins s σ H Q I h;exact isTrue_not (ha pins s σ H (fun c H1=>Q (!c) H1) I h)
def tAndV (ta tb:TE):TE:=fun σ H Q=>ta σ H fun x H1=>∃ c,x=.bl c/\if c=true then tb σ H1 Q else Q (.bl false) H1
def tNotV (ta:TE):TE:=fun σ H Q=>ta σ H fun x H1=>∃ c,x=.bl c/\Q (.bl (!c)) H1
theorem pe_one {op}(h:PE X a t):PE X (.BoolOp op [a] pos) t:=fun pins s σ H Q I hw=>BoolOp_one (h pins s σ H Q I hw)
theorem pe_and (ha:PE X a ta)(hb:PE X (.BoolOp .And (b :: a2e) pos) tb):PE X (.BoolOp .And (a :: b :: a2e) pos) (tAndV ta tb):=by
 intro pins s σ H Q I h;refine BoolOp_and (thn (ha pins s σ H _ I h) fun v s1 ⟨x,H1,I1,r1,q1⟩=>?_);obtain ⟨c,rfl,q1⟩:=q1;cases r1;refine wpAny_truthy_bool ?_
 cases c with
 | true=>exact hb pins s1 σ H1 Q I1 q1
 | false=>exact ⟨.bl false,H1,I1,rfl,q1⟩
theorem pe_not (ha:PE X a ta):PE X (.UnaryOp .Not a pos) (tNotV ta):=by
 intro pins s σ H Q I h;refine UnaryOp_ (thn (ha pins s σ H _ I h) fun v s1 ⟨x,H1,I1,r1,q1⟩=>?_);obtain ⟨c,rfl,q1⟩:=q1;cases r1;exact not_of (wpAny_truthy_bool ⟨.bl (!c),H1,I1,rfl,q1⟩)
end
end L2
namespace L2
open PySem PySem.Spec PyProof.Rows
variable {X:Cx}{c e tg:Expr}{H:Hp}{pins:List (Addr × Obj)}{es:List Expr}{i:Nat}{P:Program}{K:PySem.W.Frag}{s:Shared}{σ:St}{x:Str}{te:TE}{tc:TT}{u:Value}{w:World}
def SqL (K:PySem.W.Frag)(H:Hp)(a:Addr)(xs:List V):Prop:=
 Rd H a (.lst xs)\/
  ∃ (o:Obj) (its:Array Value) (n:Nat),K.lookup a=some o/\o.cls=.type "list"/\o.dict=none/\o.data=.seq its n/\its.size <= sizeLine/\a2t xs its.toList
def SqT (K:PySem.W.Frag)(H:Hp)(a:Addr)(xs:List V):Prop:=
 Rd H a (.tup xs)\/
  ∃ (o:Obj) (its:Array Value) (n:Nat),K.lookup a=some o/\o.cls=.type "tuple"/\o.data=.seq its n/\its.size <= sizeLine/\a2t xs its.toList
def absV:Value->Option V
 | .none=>some .non
 | .bool b=>some (.bl b)
 | .int i _=>some (.int i)
 | .str x _=>some (.str x)
 | .bytes b _=>some (.byt b)
 | .float b _=>some (.flt b)
 | .ref a=>some (.ref a)
 | .type n=>some (.ty n)
 | _=>none
theorem a2s.abs {x:V}(r:a2s x u):absV u=some x:=by
 cases x with
 | non=>cases r; rfl
 | bl _=>cases r; rfl
 | int _=>obtain ⟨t,rfl⟩:=r; rfl
 | str _=>obtain ⟨t,rfl⟩:=r; rfl
 | byt _=>obtain ⟨t,rfl⟩:=r; rfl
 | flt _=>obtain ⟨t,rfl⟩:=r; rfl
 | ref _=>cases r; rfl
 | ty _=>cases r; rfl
theorem a2s.inj {x y:V}{u:Value}(r:a2s x u)(q:a2s y u):x=y:=Option.some.inj (r.abs.symm.trans q.abs)
theorem a2t.inj:∀ {xs ys:List V} {us:List Value},a2t xs us->a2t ys us->xs=ys
 | _,_,_,.nil,.nil=>rfl
 | _,_,_,.cons r t,.cons r' t'=>by rw [r.inj r',a2t.inj t t']
section
variable {X:Cx}{pins:List (Addr × Obj)}{σ:St}{H:Hp}{s:Shared}{a:Addr}{xs ys:List V}
theorem SqL.of (h:H a=some (.lst xs)):SqL K H a xs:=.inl (.inl h)
theorem SqT.of (h:H a=some (.tup xs)):SqT K H a xs:=.inl (.inl h)
theorem Inv.list (I:Inv X pins σ H s)(h:SqL X.K H a xs):∃ its:List Value,a2t xs its/\PlainL s.heap a its.toArray/\xs.length <= sizeLine:=by
 rcases h with h | ⟨o,its,n,hk,hc,hd,hs,hz,r⟩
 ·obtain ⟨z,its,n,r,e⟩:=h.ok I.hok;exact ⟨its,r,⟨_,n,e,rfl,rfl,rfl⟩,z⟩
 ·refine ⟨its.toList,r,⟨o,n,I.kIn a o hk,hc,hd,by simpa using hs⟩,?_⟩;have e:=r.length;simp only [Array.length_toList] at e;omega
theorem Inv.tuple (I:Inv X pins σ H s)(h:SqT X.K H a xs):∃ its:List Value,a2t xs its/\IsTup s.heap a its.toArray/\xs.length <= sizeLine:=by
 rcases h with h | ⟨o,its,n,hk,hc,hs,hz,r⟩
 ·obtain ⟨z,its,r,p⟩:=h.ok I.hok;exact ⟨its,r,p,z⟩
 ·refine ⟨its.toList,r,⟨o,I.kIn a o hk,hc,n,by simpa using hs⟩,?_⟩;have e:=r.length;simp only [Array.length_toList] at e;omega
theorem Inv.list_inj (I:Inv X pins σ H s)(h:SqL X.K H a xs)(h':SqL X.K H a ys):xs=ys:=by
 obtain ⟨its,r,⟨o,n,e,_,_,d⟩,_⟩:=I.list h;obtain ⟨its',r',⟨o',n',e',_,_,d'⟩,_⟩:=I.list h';rw [e] at e'; cases e';rw [d] at d'
 injection d' with d1 _
 have:its=its':=by simpa using congrArg Array.toList d1
 subst this;exact r.inj r'
theorem Inv.tuple_inj (I:Inv X pins σ H s)(h:SqT X.K H a xs)(h':SqT X.K H a ys):xs=ys:=by
 obtain ⟨its,r,⟨o,e,_,n,d⟩,_⟩:=I.tuple h;obtain ⟨its',r',⟨o',e',_,n',d'⟩,_⟩:=I.tuple h';rw [e] at e'; cases e';rw [d] at d'
 injection d' with d1 _
 have:its=its':=by simpa using congrArg Array.toList d1
 subst this;exact r.inj r'
end
abbrev Cx.wish (X:Cx)(E:Value->Shared->Prop):Cx:={ X with xe:=E }
abbrev Cx.nox (X:Cx):Cx:=X.wish fun _ _=>False
theorem Cx.Ok.wish {X:Cx}(ok:X.Ok)(E:Value->Shared->Prop):(X.wish E).Ok:=
 ⟨ok.mod,ok.kind,ok.glob,ok.blt,ok.above,ok.inj,ok.has,ok.cab,ok.hd,ok.frames,ok.stk,ok.exf,ok.bs,ok.bsz,ok.noex,ok.exfs,ok.funs,ok.frf⟩
theorem Cx.Ok.unwish {E:Value->Shared->Prop}(ok:(X.wish E).Ok):X.Ok:=
 ⟨ok.mod,ok.kind,ok.glob,ok.blt,ok.above,ok.inj,ok.has,ok.cab,ok.hd,ok.frames,ok.stk,ok.exf,ok.bs,ok.bsz,ok.noex,ok.exfs,ok.funs,ok.frf⟩
section
variable {X:Cx}{pins:List (Addr × Obj)}{σ:St}{H:Hp}{s:Shared}{E:Value->Shared->Prop}
theorem Inv.wish (I:Inv X pins σ H s)(E:Value->Shared->Prop):Inv (X.wish E) pins σ H s:=⟨I.ok.wish E,I.os,I.bare,I.base,I.loc,I.cell,I.free,I.freeC,I.pin,I.hok,I.len⟩
theorem Inv.unwish (I:Inv (X.wish E) pins σ H s):Inv X pins σ H s:=⟨I.ok.unwish,I.os,I.bare,I.base,I.loc,I.cell,I.free,I.freeC,I.pin,I.hok,I.len⟩
theorem SP.unwish {D:b0y}{f:Flow}{s':Shared}(h:SP (X.wish E) pins D f s'):SP X pins D f s':=by
 cases f with
 | next=>obtain ⟨σ',H',I,q⟩:=h; exact ⟨σ',H',I.unwish,q⟩
 | brk=>obtain ⟨σ',H',I,q⟩:=h; exact ⟨σ',H',I.unwish,q⟩
 | cont=>obtain ⟨σ',H',I,q⟩:=h; exact ⟨σ',H',I.unwish,q⟩
 | ret u=>obtain ⟨v,σ',H',I,r,q⟩:=h; exact ⟨v,σ',H',I.unwish,r,q⟩
theorem PSs.nox {st:List Stmt}{t:TS}(h:PSs X.nox st t):PSs X st t:=fun pins s σ H D I hw=>
 wpAny_mono (h pins s σ H D (I.wish _) hw) (fun _ _ q=>q.unwish) fun _ _ z=>False.elim z
end
section
variable {X:Cx}{st:Stmt}{a2e:List Stmt}{t u:TS}{e:Expr}{te:TE}{pos:Pos}
def tNext:TS:=fun D σ H=>D.nx σ H
def tSeq (t u:TS):TS:=fun D σ H=>t { D with nx:=u D } σ H
theorem a1e:PSs X [] tNext:=fun _ _ σ H _ I h=>wpAny_execs_nil ⟨σ,H,I,h⟩
theorem a0b (h1:PS X st t)(h2:PSs X a2e u):PSs X (st :: a2e) (tSeq t u):=by
 intro pins s σ H D I h;refine wpAny_execs_cons (thn (h1 pins s σ H { D with nx:=u D } I h) fun f s1 q=>?_)
 cases f with
 | next=>
  obtain ⟨σ',H',I',q⟩:=q;exact h2 pins s1 σ' H' D I' q
 | ret v=>exact q
 | brk=>exact q
 | cont=>exact q
theorem a0g (h1:PS X st t):PSs X [st] t:=by
 intro pins s σ H D I h;refine wpAny_execs_cons (thn (h1 pins s σ H D I h) fun f s1 q=>?_)
 cases f with
 | next=>exact wpAny_execs_nil q
 | ret v=>exact q
 | brk=>exact q
 | cont=>exact q
theorem Inv.quiet (I:Inv X pins σ H s):interactive X.env=false:=by simp [interactive,I.ok.kind]
def tDrop (te:TE):TS:=fun D σ H=>te σ H fun _ H1=>D.nx σ H1
theorem a2y (he:PE X e te)(hs:swapsWith e none pos.line X.env=pure false:=by rfl):PS X (.Expr e pos) (tDrop te):=by
 intro pins s σ H D I h;exact wpAny_Expr_any (thn (he pins s σ H _ I h) fun v s1 ⟨x,H1,I1,r1,q1⟩=>⟨σ,H1,I1,q1⟩) I.quiet hs
def tRet (te:TE):TS:=fun D σ H=>te σ H D.rt
theorem a0x (he:PE X e te):PS X (.Return (some e) pos) (tRet te):=by
 intro pins s σ H D I h;exact wpAny_Return_some (thn (he pins s σ H _ I h) fun v s1 ⟨x,H1,I1,r1,q1⟩=>⟨x,σ,H1,I1,r1,q1⟩)
def tIfS (c:TT)(t u:TS):TS:=fun D σ H=>c σ H fun b H1=>if b=true then t D σ H1 else u D σ H1
theorem a3g {a b:List Stmt}(hc:PT X c tc)(ha:PSs X a t)(hb:PSs X b u):PS X (.If c a b pos) (tIfS tc t u):=by
 intro pins s σ H D I h;refine wpAny_If (thn (hc pins s σ H _ I h) fun d s1 ⟨H1,I1,q1⟩=>?_)
 cases d with
 | true=>exact ha pins s1 σ H1 D I1 q1
 | false=>exact hb pins s1 σ H1 D I1 q1
end
abbrev TG:=V->St->Hp->(St->Hp->Prop)->Prop
abbrev TGs:=List V->St->Hp->(St->Hp->Prop)->Prop
def PG (X:Cx)(target:Expr)(t:TG):Prop:=
 ∀ (pins:List (Addr × Obj)) (s:Shared) (σ:St) (H:Hp) (v:V) (u:Value) (Q:St->Hp->Prop),Inv X pins σ H s->a2s v u->t v σ H Q->
  wpAny (model X.prog X.w) X.A (assign target X.env u) (fun _ s'=>∃ σ' H',Inv X pins σ' H' s'/\Q σ' H') X.xe s
def PGs (X:Cx)(ts:List Expr)(t:TGs):Prop:=
 ∀ (pins:List (Addr × Obj)) (s:Shared) (σ:St) (H:Hp) (vs:List V) (us:List Value) (Q:St->Hp->Prop),Inv X pins σ H s->a2t vs us->t vs σ H Q->
  wpAny (model X.prog X.w) X.A (assignInOrder ((assignEach ts X.env).map (·.2)) us) (fun _ s'=>∃ σ' H',Inv X pins σ' H' s'/\Q σ' H') X.xe s
section
variable {X:Cx}{pos:Pos}
def gName (i:Nat):TG:=fun v σ H Q=>Q (σ.set i (some v)) H
theorem a1c (hN:X.N.Nodup)(hi:X.N[i]? = some x)(hx:Loc X.env.scope x)(hf:X.fn x=true\/X.env.scope.names.lookup x=some .local:=by first | exact .inl rfl | exact .inr rfl | assumption):PG X (.Name x pos) (gName i):=by
 intro pins s σ H v u Q I r h;exact wpAny_assign_Name (store_ok I hN hi hx r (fun s' I'=>⟨_,H,I',h⟩) hf)
def gNil:TGs:=fun vs σ H Q=>vs=[]/\Q σ H
def gCons (t:TG)(u:TGs):TGs:=fun vs σ H Q=>∃ v r,vs=v :: r/\t v σ H fun σ' H'=>u r σ' H' Q
theorem a8e:PGs X [] gNil:=by
 intro pins s σ H vs us Q I r h;obtain ⟨e,h⟩:=h;subst e;cases r;exact assignInOrder_nil ⟨σ,H,I,h⟩
theorem a1m {t:TG}{u:TGs}(h1:PG X e t)(h2:PGs X es u)
  (hs:(assignEach (e :: es) X.env).map (·.2) = assign e X.env :: (assignEach es X.env).map (·.2):=by rfl):PGs X (e :: es) (gCons t u):=by
 intro pins s σ H vs us Q I r h;obtain ⟨v,vr,e1,h⟩:=h;subst e1
 cases r with
 | cons r rr=>
  rw [hs];refine assignInOrder_cons (thn (h1 pins s σ H _ _ _ I r h) fun _ s1 ⟨σ1,H1,I1,q1⟩=>?_);exact h2 pins s1 σ1 H1 _ _ Q I1 rr q1
def gTup (K:PySem.W.Frag)(n:Nat)(t:TGs):TG:=fun v σ H Q=>∃ a xs,v=.ref a/\SqT K H a xs/\xs.length=n/\t xs σ H Q
theorem b1z {k:Nat}{t:TGs}{n:Nat}(hc:X.calm=true)(h:PGs X es t)
  (hn:(assignEach es X.env).length=n:=by rfl) (hst:(assignEach es X.env).findIdx? (·.1) = none:=by rfl):PG X (.Tuple es k pos) (gTup X.K n t):=by
 intro pins s σ H v u Q I r hw;obtain ⟨a,xs,e1,hq,hl,hw⟩:=hw;subst e1;cases r;obtain ⟨its,rv,ht,hz⟩:=I.tuple hq;refine assign_Tuple_tuple (I.ok.hd hc) ht (by simp [hn,<- hl,rv.length]) hst fun h' hx=>?_;have I1:Inv X pins σ H { s with heap:=h' }:=I.kept (t':=s.toks) fun b o e=>hx b o (Nat.ne_of_lt (Heap.lt_size e)) e;exact h pins _ σ H xs _ Q I1 (by simpa using rv) hw
def tAsg (te:TE)(g:TG):TS:=fun D σ H=>te σ H fun x H1=>g x σ H1 D.nx
theorem ps_asg {g:TG}(he:PE X e te)(hg:PG X tg g)(hs:swapsWithSole [tg] e pos.line X.env=pure false:=by rfl)(hw:swappedStores [tg] e X.env=pure none:=by rfl)
  (h1:(assignEach [tg] X.env).map (·.2) = [assign tg X.env]:=by rfl):PS X (.Assign [tg] e pos) (tAsg te g):=by
 intro pins s σ H D I h;refine wpAny_Assign_stores (thn (he pins s σ H _ I h) fun v s1 ⟨x,H1,I1,r1,q1⟩=>?_) hs hw;rw [h1];exact thn (hg pins s1 σ H1 x v _ I1 r1 q1) fun _ s2 q=>q
theorem a0p {pos':Pos}(hN:X.N.Nodup)(hi:X.N[i]? = some x)(hx:Loc X.env.scope x)(he:PE X e te)(hs:swapsWith e (some (.Name x pos')) pos.line X.env=pure false:=by rfl)(hf:X.fn x=true\/X.env.scope.names.lookup x=some .local:=by first | exact .inl rfl | exact .inr rfl | assumption) :
  PS X (.Assign [.Name x pos'] e pos) (tAsg te (gName i)):=by
 intro pins s σ H D I h;refine wpAny_Assign_Name (thn (he pins s σ H _ I h) fun v s1 ⟨y,H1,I1,r1,q1⟩=>?_) hs;exact store_ok I1 hN hi hx r1 (fun s2 I2=>⟨_,H1,I2,q1⟩) hf
end
section
variable {X:Cx}{pos:Pos}
def tWhile (c:TT)(tb:TS):TS:=fun D σ H=>∃ W:Nat->St->Hp->Prop,(∃ m,W m σ H)/\∀ m σ H,W m σ H->
 c σ H fun b H1=>if b=true then ∃ N:St->Hp->Prop,(∀ σ' H',N σ' H'->∃ m',m' < m/\W m' σ' H')/\tb { D with nx:=N,ct:=N,bk:=D.nx } σ H1 else D.nx σ H1
theorem ps_while {body:List Stmt}{tb:TS}(hp:PassesOwn (model X.prog X.w) X.A X.env X.xe)(hc:PT X c tc)(hb:PSs X body tb):PS X (.While c body [] pos) (tWhile tc tb):=by
 intro pins s σ H D I h;obtain ⟨W,⟨m0,w0⟩,a2h⟩:=h;refine wpAny_While (codeAny_whileLoop (fun n s'=>∃ σ' H',Inv X pins σ' H' s'/\W n σ' H') ?_ m0 ⟨σ,H,I,w0⟩);rintro n s1 ⟨σ1,H1,I1,w1⟩;refine wpAny_passesOwn hp (thn (hc pins s1 σ1 H1 _ I1 (a2h n σ1 H1 w1)) fun b s2 ⟨H2,I2,q2⟩=>?_)
 cases b with
 | true=>
  obtain ⟨N,hN,q2⟩:=q2;rw [if_pos rfl];refine wpAny_passesOwn hp (thn (hb pins s2 σ1 H2 _ I2 q2) fun f s3 q3=>?_)
  cases f with
  | next=>
   obtain ⟨σ3,H3,I3,n3⟩:=q3;obtain ⟨m',hm,w3⟩:=hN σ3 H3 n3;exact ⟨m',hm,σ3,H3,I3,w3⟩
  | cont=>
   obtain ⟨σ3,H3,I3,n3⟩:=q3;obtain ⟨m',hm,w3⟩:=hN σ3 H3 n3;exact ⟨m',hm,σ3,H3,I3,w3⟩
  | brk=>exact q3
  | ret v=>exact q3
 | false=>
  rw [if_neg Bool.false_ne_true];exact wpAny_execs_nil ⟨σ1,H2,I2,q2⟩
end
structure It where
 go:Nat->Hp->Prop
 yld:Nat->Hp->V->Hp->Prop
 stop:Nat->Hp->Prop
def FpOk (X:Cx)(pins:List (Addr × Obj))(H:Hp)(b:Addr):Prop:=
 H b=none/\b ≠ X.env.locals/\b ∉ X.fs/\(b ∈ X.ex\/X.s₀.heap.objs.size <= b)/\(∀ x c,X.env.cells.lookup x=some c->c ≠ b)/\∀ p ∈ X.pn ++ pins,p.1 ≠ b
theorem Inv.fpOk {H':Hp}{b:Addr}(I:Inv X pins σ H s)(hb:s.heap.objs.size <= b)(hn:H' b=none):FpOk X pins H' b:=by
 refine ⟨hn,Nat.ne_of_gt (Nat.lt_of_lt_of_le I.lt hb),I.nofs hb,.inr (Nat.le_trans I.sz hb),fun x c e z=>?_,fun p hp z=>?_⟩
 ·obtain ⟨v,q⟩:=I.cell x c e;exact absurd (Nat.lt_of_lt_of_le q.lt (by rw [z]; exact hb)) (Nat.lt_irrefl _)
 ·exact absurd (Nat.lt_of_lt_of_le (Heap.lt_size (I.pin p hp).1) (by rw [z]; exact hb)) (Nat.lt_irrefl _)
structure Turn (P:Program)(w:World)(K:PySem.W.Frag)(tg:Expr)(J:It)(fp:List Addr)(it:Addr)(tn:Nat->Heap->Prop):Prop where
 mem:it ∈ fp
 obj:∀ i h,tn i h->∀ b ∈ fp,∃ o,h.get? b=some o/\∀ v,o.data ≠ .cell v
 keep:∀ i h h',tn i h->(∀ b ∈ fp,∀ o,h.get? b=some o->h'.get? b=some o)->tn i h'
 item:∀ (X:Cx),X.prog=P->X.w=w->X.K=K->X.calm=true->∀ (i:Nat) (pins:List (Addr × Obj)) (s:Shared) (σ:St) (H:Hp) (E:Value->Shared->Prop),Inv X pins σ H s->(∀ b ∈ fp,FpOk X pins H b)->tn i s.heap->J.go i H->
  wpAny (model P w) X.A (pyNext (.ref it)) (fun r s1=>∃ u,r=some u/\
   wpAny (model P w) X.A (letOwnedTupleGo tg (.ref it) u) (fun _ s2=>∃ x H',Inv X pins σ H' s2/\a2s x u/\J.yld i H x H'/\tn (i + 1) s2.heap/\∀ b ∈ fp,H' b=none) E s1) E s
 done:∀ (X:Cx),X.prog=P->X.w=w->X.K=K->X.calm=true->∀ (i:Nat) (pins:List (Addr × Obj)) (s:Shared) (σ:St) (H:Hp) (E:Value->Shared->Prop),Inv X pins σ H s->(∀ b ∈ fp,FpOk X pins H b)->tn i s.heap->J.stop i H->
  wpAny (model P w) X.A (pyNext (.ref it)) (fun r s1=>r=none/\Inv X pins σ H s1) E s
 self:∀ (A:Around) (i:Nat) (s:Shared) (Q:Value->Shared->Prop) (E:Value->Shared->Prop),tn i s.heap->Q (.ref it) s->wpAny (model P w) A (pyIter (.ref it)) Q E s
abbrev TI:=St->Hp->(It->Hp->Prop)->Prop
def PIE (X:Cx)(pins:List (Addr × Obj))(σ:St)(tg:Expr)(R:It->Hp->Prop)(itv:Value)(s2:Shared):Prop:=
 ∃ (it:Addr) (fp:List Addr) (tn:Nat->Heap->Prop) (J:It) (H':Hp),itv=.ref it/\Inv X pins σ H' s2/\Turn X.prog X.w X.K tg J fp it tn/\tn 0 s2.heap/\(∀ b ∈ fp,FpOk X pins H' b)/\R J H'
def PI (X:Cx)(tg iter:Expr)(wi:TI):Prop:=
 ∀ (pins:List (Addr × Obj)) (s:Shared) (σ:St) (H:Hp) (R:It->Hp->Prop),Inv X pins σ H s->wi σ H R->
  wpAny (model X.prog X.w) X.A (eval iter X.env) (fun v s1=>wpAny (model X.prog X.w) X.A (pyIter v) (PIE X pins σ tg R) X.xe s1) X.xe s
theorem go_of {M:Model}{A:Around}{E:Value->Shared->Prop}{it:Addr}{o:Obj}{n:String}{vs:Array Value}{Q:Unit->Shared->Prop}(ho:s.heap.get? it=some o)(hc:o.cls=.type n)(hd:o.data=.fields vs)
  (hn:["enumerate","zip","dict_itemiterator","dict_reverseitemiterator","odict_iterator","itertools.zip_longest","itertools.pairwise"].contains n=false) (hQ:Q () s):wpAny M A (letOwnedTupleGo tg (.ref it) u) Q E s:=by
 unfold letOwnedTupleGo
 cases tg <;> first
  | exact wpAny_pure hQ
  | (cases u <;> first
    | exact wpAny_pure hQ
    | (refine wpAny_bind (wpAny_load ho ?_)
       rw [hc,hd];show wpAny M A (if (["enumerate","zip","dict_itemiterator","dict_reverseitemiterator","odict_iterator","itertools.zip_longest","itertools.pairwise"].contains n && vs[0]? == some (rawInt _)) = true then _ else _) Q E s;rw [if_neg (by intro h; rw [hn,Bool.false_and] at h; cases h)]
       exact wpAny_pure hQ))
def Itl (K:PySem.W.Frag)(a:Addr):It:=
 ⟨fun i H=>∃ xs x,SqL K H a xs/\xs[i]? = some x,fun i H x H'=>H' = H/\∀ xs,SqL K H a xs->xs[i]? = some x,fun i H=>∃ xs,SqL K H a xs/\xs.length <= i⟩
def Itt (K:PySem.W.Frag)(a:Addr):It:=
 ⟨fun i H=>∃ xs x,SqT K H a xs/\xs[i]? = some x,fun i H x H'=>H' = H/\∀ xs,SqT K H a xs->xs[i]? = some x,fun i H=>∃ xs,SqT K H a xs/\xs.length <= i⟩
def Itr (lo:Int)(n:Nat):It:=⟨fun i _=>i < n,fun i H x H'=>H' = H/\x=.int (lo + i),fun i _=>n <= i⟩
theorem turn_list (a it:Addr):Turn P w K tg (Itl K a) [it] it (fun i h=>h.IsListIter it a i) where
 mem:=by simp
 obj:=fun i h st b hb=>by
  have e:b=it:=by simpa using hb
  subst e;obtain ⟨o,e,c,d⟩:=st;exact ⟨o,e,fun v z=>by rw [d] at z; cases z⟩
 keep:=fun i h h' st k=>st.at fun o e=>k it (by simp) o e
 item:=by
  intro X hP hw hK hc i pins s σ H E I hf st hg;subst hP hw hK;obtain ⟨xs,x,hq,hx⟩:=hg;obtain ⟨its,rv,p,hz⟩:=I.list hq;obtain ⟨u,hu,ru⟩:=rv.get hx;obtain ⟨f0,f1,f2,f3,f4,f5⟩:=hf it (by simp);refine wpAny_pyNext_list_item st p.isList (x:=u) (by simpa using hu) fun h' st' sb=>?_;have I1:Inv X pins σ H { s with heap:=h' }:=I.turned (t':=s.toks) (fun b o hb e=>(sb.2 b hb).trans e) f0 f1 f3 f4 f5;obtain ⟨o,e,c,d⟩:=id st';exact ⟨u,rfl,go_of (s:={ s with heap:=h' }) e c d (by decide) ⟨x,H,I1,ru,⟨rfl,fun ys hy=>by rw [I.list_inj hy hq]; exact hx⟩,st',fun b hb=>(hf b hb).1⟩⟩
 done:=by
  intro X hP hw hK hc i pins s σ H E I hf st hg;subst hP hw hK;obtain ⟨xs,hq,hx⟩:=hg;obtain ⟨its,rv,p,hz⟩:=I.list hq;obtain ⟨f0,f1,f2,f3,f4,f5⟩:=hf it (by simp);have hl:=rv.length;exact wpAny_pyNext_list_end (I.ok.hd hc) st p.isList (by simp; omega) fun h' eb=>⟨rfl,I.turned (t':=s.toks) (fun b o hb e=>eb b o hb e) f0 f1 f3 f4 f5⟩
 self:=fun _ _ _ _ _ st h=>wpAny_pyIter_listiter st h
theorem turn_tuple (a it:Addr):Turn P w K tg (Itt K a) [it] it (fun i h=>h.IsTupleIter it a i) where
 mem:=by simp
 obj:=fun i h st b hb=>by
  have e:b=it:=by simpa using hb
  subst e;obtain ⟨o,e,c,d⟩:=st;exact ⟨o,e,fun v z=>by rw [d] at z; cases z⟩
 keep:=fun i h h' st k=>st.at fun o e=>k it (by simp) o e
 item:=by
  intro X hP hw hK hc i pins s σ H E I hf st hg;subst hP hw hK;obtain ⟨xs,x,hq,hx⟩:=hg;obtain ⟨its,rv,p,hz⟩:=I.tuple hq;obtain ⟨u,hu,ru⟩:=rv.get hx;obtain ⟨f0,f1,f2,f3,f4,f5⟩:=hf it (by simp);refine wpAny_pyNext_tuple_item st (show s.heap.IsTuple a its.toArray from p) (x:=u) (by simpa using hu) fun h' st' sb=>?_;have I1:Inv X pins σ H { s with heap:=h' }:=I.turned (t':=s.toks) (fun b o hb e=>(sb.2 b hb).trans e) f0 f1 f3 f4 f5;obtain ⟨o,e,c,d⟩:=id st';exact ⟨u,rfl,go_of (s:={ s with heap:=h' }) e c d (by decide) ⟨x,H,I1,ru,⟨rfl,fun ys hy=>by rw [I.tuple_inj hy hq]; exact hx⟩,st',fun b hb=>(hf b hb).1⟩⟩
 done:=by
  intro X hP hw hK hc i pins s σ H E I hf st hg;subst hP hw hK;obtain ⟨xs,hq,hx⟩:=hg;obtain ⟨its,rv,p,hz⟩:=I.tuple hq;obtain ⟨f0,f1,f2,f3,f4,f5⟩:=hf it (by simp);have hl:=rv.length;exact wpAny_pyNext_tuple_end (I.ok.hd hc) st (show s.heap.IsTuple a its.toArray from p) (by simp; omega) fun h' eb=>⟨rfl,I.turned (t':=s.toks) (fun b o hb e=>eb b o hb e) f0 f1 f3 f4 f5⟩
 self:=fun _ _ _ _ _ st h=>wpAny_pyIter_tupleiter st h
theorem turn_range (it:Addr)(lo:Int)(n:Nat):Turn P w K tg (Itr lo n) [it] it (fun i h=>IsRangeIter h it (lo + (i:Nat) * 1) ((n:Int) - (i:Nat)) 1) where
 mem:=by simp
 obj:=fun i h st b hb=>by
  have e:b=it:=by simpa using hb
  subst e
  exact ⟨_,st,fun v z=>by
   have z':Data.fields _=Data.cell v:=z
   cases z'⟩
 keep:=fun i h h' st k=>k it (by simp) _ st
 item:=by
  intro X hP hw hK hc i pins s σ H E I hf st hg;subst hP hw hK;obtain ⟨f0,f1,f2,f3,f4,f5⟩:=hf it (by simp);have W:=Walks.range (prog:=X.prog) (w:=X.w) (I.ok.hd hc) it lo 1 n;refine W.item i s _ _ hg st fun v h' tk hv st' kk=>?_;obtain ⟨t,rfl⟩:=hv;have I1:Inv X pins σ H { s with heap:=h',toks:=tk }:=I.turned (fun b o hb e=>kk b o (by simpa using hb) e) f0 f1 f3 f4 f5;refine ⟨_,rfl,go_of (s:={ s with heap:=h',toks:=tk }) (n:="range_iterator") st' rfl rfl (by decide) ⟨.int (lo + i),H,I1,⟨t,?_⟩,⟨rfl,rfl⟩,st',fun b hb=>(hf b hb).1⟩⟩;rw [Int.mul_one]
 done:=by
  intro X hP hw hK hc i pins s σ H E I hf st hg;subst hP hw hK;obtain ⟨f0,f1,f2,f3,f4,f5⟩:=hf it (by simp);exact wpAny_pyNext_range_end (I.ok.hd hc) st (by have:n <= i:=hg; omega) fun h' eb=>⟨rfl,I.turned (t':=s.toks) (fun b o hb e=>eb b o hb e) f0 f1 f3 f4 f5⟩
 self:=fun _ _ _ _ _ st h=>wpAny_pyIter_rangeiter st h
end L2
namespace L2
open PySem PySem.Spec PyProof.Rows
variable {l:Expr}{h:Heap}{H:Hp}{lo:Int}{pins:List (Addr × Obj)}{fp:List Addr}{pos:Pos}{s:Shared}{σ:St}{tl:TE}{g:TG}{tb:TS}{D:b0y}
section
variable {X:Cx}{tg:Expr}
def iList (K:PySem.W.Frag)(tl:TE):TI:=fun σ H R=>tl σ H fun x H1=>∃ a,x=.ref a/\(∃ xs,SqL K H1 a xs)/\R (Itl K a) H1
def iTup (K:PySem.W.Frag)(tl:TE):TI:=fun σ H R=>tl σ H fun x H1=>∃ a,x=.ref a/\(∃ xs,SqT K H1 a xs)/\R (Itt K a) H1
theorem a3s (hl:PE X l tl):PI X tg l (iList X.K tl):=by
 intro pins s σ H R I h;refine thn (hl pins s σ H _ I h) fun v s1 ⟨x,H1,I1,r1,q1⟩=>?_;obtain ⟨a,e,⟨xs,hq⟩,q⟩:=q1;subst e;cases r1;obtain ⟨its,rv,p,hz⟩:=I1.list hq;refine wpAny_pyIter_list p.isList ?_;refine ⟨s1.heap.objs.size,[s1.heap.objs.size],_,_,H1,rfl,I1.kept (t':=s1.toks) fun b o e=>Heap.get?_push_of_some _ e,turn_list a _,⟨_,Heap.get?_push_size _ rfl,rfl,rfl⟩,fun b hb=>?_,q⟩;have e:b=s1.heap.objs.size:=by simpa using hb
 subst e;exact I1.fpOk (Nat.le_refl _) (I1.hok.fresh (Nat.le_refl _))
theorem pi_tup (hl:PE X l tl):PI X tg l (iTup X.K tl):=by
 intro pins s σ H R I h;refine thn (hl pins s σ H _ I h) fun v s1 ⟨x,H1,I1,r1,q1⟩=>?_;obtain ⟨a,e,⟨xs,hq⟩,q⟩:=q1;subst e;cases r1;obtain ⟨its,rv,p,hz⟩:=I1.tuple hq;refine wpAny_pyIter_tuple (show s1.heap.IsTuple a its.toArray from p) ?_;refine ⟨s1.heap.objs.size,[s1.heap.objs.size],_,_,H1,rfl,I1.kept (t':=s1.toks) fun b o e=>Heap.get?_push_of_some _ e,turn_tuple a _,⟨_,Heap.get?_push_size _ rfl,rfl,rfl⟩,fun b hb=>?_,q⟩;have e:b=s1.heap.objs.size:=by simpa using hb
 subst e;exact I1.fpOk (Nat.le_refl _) (I1.hok.fresh (Nat.le_refl _))
theorem range_it {R:It->Hp->Prop}{E:Value->Shared->Prop}{hi:Int}{t u v:Tok}{tk:Nat}(I:Inv X pins σ H s)(h1:-(2 ^ 62) <= lo)(h2:lo < 2 ^ 62)(h3:-(2 ^ 62) <= hi)(h4:hi < 2 ^ 62)
  (q:R (Itr lo (hi - lo).toNat) H):wpAny (model X.prog X.w) X.A (pyIter (.ref s.heap.objs.size)) (PIE X pins σ tg R) E { s with heap:=s.heap.push { cls:=.type "range",data:=.fields #[.int lo t,.int hi u,.int 1 v] },toks:=tk }:=by
 refine wpAny_pyIter_range (IsRange.new ..) (small_one h1 h2 h3 h4) ?_;have I1:Inv X pins σ H { s with heap:=s.heap.push { cls:=.type "range",data:=.fields #[.int lo t,.int hi u,.int 1 v] },toks:=tk }:=I.kept fun b o e=>Heap.get?_push_of_some _ e
 refine ⟨(s.heap.push { cls:=.type "range",data:=.fields #[.int lo t,.int hi u,.int 1 v] }).objs.size,[(s.heap.push { cls:=.type "range",data:=.fields #[.int lo t,.int hi u,.int 1 v] }).objs.size],_,_,H,rfl,
  I1.kept (t':=tk) fun b o e=>Heap.get?_push_of_some _ e,turn_range _ lo (hi - lo).toNat,?_,fun b hb=>?_,q⟩
 ·have e1:lo + ((0:Nat):Int) * 1=lo:=by simp
  have e2:(((hi - lo).toNat:Nat):Int) - ((0:Nat):Int) = Builtin.Range.rangeSize lo hi 1:=by rw [rangeSize_one]; split <;> omega
  show IsRangeIter _ _ (lo + ((0:Nat):Int) * 1) ((((hi - lo).toNat:Nat):Int) - ((0:Nat):Int)) 1;rw [e1,e2];exact Heap.get?_push_size _ rfl
 ·have e:b=(s.heap.push { cls:=.type "range",data:=.fields #[.int lo t,.int hi u,.int 1 v] }).objs.size:=by simpa using hb
  subst e;exact I1.fpOk (Nat.le_refl _) (I1.hok.fresh (Nat.le_refl _))
def iRng1 (ta:TA):TI:=fun σ H R=>ta σ H fun vs H1=>∃ j:Int,vs=[.int j]/\-(2 ^ 62) <= j/\j < 2 ^ 62/\R (Itr 0 j.toNat) H1
theorem a3z {a:Expr}{ta:TA}{p:Pos}(hg:Gl X "range")(hm:X.mg "range" = none)(ha:PA X [a] ta)(hs:starEach [a] X.env=[(false,eval a X.env)]:=by rfl):PI X tg (.Call (.Name "range" p) [a] [] pos) (iRng1 ta):=by
 intro pins s σ H R I h;refine Call_ (ld_blt I hg hm boot_range (PyProof.Rows.callWith_type1 (thn (ha pos pins s σ H _ I h) fun us s1 ⟨vs,H1,I1,r1,q1⟩=>?_) hs rfl));obtain ⟨j,e,q1,q2,q⟩:=q1;subst e
 cases r1 with
 | cons r rr=>
  cases rr;obtain ⟨t,rfl⟩:=r;exact call_range_1 (range_it I1 (by omega) (by omega) q1 q2 (by simpa using q))
def tFor (wi:TI)(g:TG)(tb:TS):TS:=fun D σ H=>wi σ H fun J H1=>∃ W:Nat->Nat->St->Hp->Prop,(∃ m,W 0 m σ H1)/\∀ i m σ H,W i m σ H->
 (J.stop i H/\D.nx σ H)\/(J.go i H/\∃ N:St->Hp->Prop,(∀ σ' H',N σ' H'->∃ m',m' < m/\W (i + 1) m' σ' H')/\∀ x H',J.yld i H x H'->g x σ H' fun σ2 H2=>tb { D with nx:=N,ct:=N,bk:=D.nx } σ2 H2)
def b5t (fp:List Addr)(h:Heap):List (Addr × Obj):=fp.filterMap fun b=>(h.get? b).map fun o=>(b,o)
theorem a4x {b:Addr}{o:Obj}(hb:b ∈ fp)(e:h.get? b=some o):(b,o) ∈ b5t fp h:=List.mem_filterMap.mpr ⟨b,hb,by rw [e]; rfl⟩
theorem of_pinsAt {p:Addr × Obj}(hp:p ∈ b5t fp h):p.1 ∈ fp/\h.get? p.1=some p.2:=by
 obtain ⟨b,hb,e⟩:=List.mem_filterMap.mp hp
 cases q:h.get? b with
 | none=>rw [q] at e; cases e
 | some o=>
  rw [q] at e;have e':(b,o) = p:=Option.some.inj e;subst e';exact ⟨hb,q⟩
theorem Inv.pinned (I:Inv X pins σ H s)(hf:∀ b ∈ fp,FpOk X pins H b)(ho:∀ b ∈ fp,∃ o,s.heap.get? b=some o/\∀ v,o.data ≠ .cell v):Inv X (pins ++ b5t fp s.heap) σ H s:=
 I.pins_of fun p hp=>(List.mem_append.mp hp).elim (fun z=>I.pin p (List.mem_append_right _ z)) fun z=>by
  obtain ⟨hb,e⟩:=of_pinsAt z;obtain ⟨f0,f1,f2,_⟩:=hf p.1 hb;obtain ⟨o,e',d⟩:=ho p.1 hb;rw [e] at e'; cases e';exact ⟨e,f0,f1,f2,d⟩
theorem Inv.unpinned {pl:List (Addr × Obj)}(I:Inv X (pins ++ pl) σ H s):Inv X pins σ H s:=I.pins_of fun p hp=>I.pin p (List.mem_append_right _ (List.mem_append_left _ hp))
theorem a6f {iter:Expr}{body:List Stmt}{wi:TI}(hp:PassesOwn (model X.prog X.w) X.A X.env X.xe)(hc:X.calm=true)(hi:PI X tg iter wi)(hg:PG X tg g)(hb:PSs X body tb)
  (hs:∀ x,foldedSetIterable iter X.env x=pure x:=by intro _; rfl):PS X (.For tg iter body [] pos) (tFor wi g tb):=by
 intro pins s σ H D I h;refine wpAny_For (thn (hi pins s σ H _ I h) fun v s1 h1=>thn h1 fun itv s2 h2=>?_) hs;obtain ⟨it,fp,tn,J,H2,e,I2,T,st2,f2,W,⟨m0,w0⟩,a2h⟩:=h2;subst e;have stat:∀ {H':Hp},(∀ b ∈ fp,H' b=none)->∀ b ∈ fp,FpOk X pins H' b:=fun hn b hb=>⟨hn b hb,(f2 b hb).2⟩;refine codeAny_forLoop_any (fun n s'=>∃ i σ' H',Inv X pins σ' H' s'/\tn i s'.heap/\(∀ b ∈ fp,H' b=none)/\W i n σ' H') ?_ m0 ⟨0,σ,H2,I2,st2,fun b hb=>(f2 b hb).1,w0⟩;rintro n s3 ⟨i,σ3,H3,I3,st3,fr3,w3⟩
 rcases a2h i n σ3 H3 w3 with ⟨stop,qn⟩ | ⟨go,N,hN,step⟩
 ·refine wpAny_passesOwn hp (thn (T.done X rfl rfl rfl hc i pins s3 σ3 H3 X.xe I3 (stat fr3) st3 stop) fun r s4 ⟨hr,I4⟩=>?_);subst hr;exact wpAny_execs_nil ⟨σ3,H3,I4,qn⟩
 ·refine wpAny_passesOwn hp (thn (T.item X rfl rfl rfl hc i pins s3 σ3 H3 X.xe I3 (stat fr3) st3 go) fun r s4 ⟨u,hr,h4⟩=>?_);subst hr;refine wpAny_passesOwn hp (thn h4 fun _ s5 ⟨x,H5,I5,r5,y5,st5,fr5⟩=>?_);have I5':=I5.pinned (stat fr5) (T.obj _ _ st5);refine wpAny_passesOwn hp (thn (hg _ s5 σ3 H5 x u _ I5' r5 (step x H5 y5)) fun _ s6 ⟨σ6,H6,I6,q6⟩=>?_);refine wpAny_passesOwn hp (thn (hb _ s6 σ6 H6 _ I6 q6) fun f s7 q7=>?_)
  have again:∀ {σ7:St} {H7:Hp},Inv X (pins ++ b5t fp s5.heap) σ7 H7 s7->N σ7 H7->∃ m,m < n/\∃ i σ' H',Inv X pins σ' H' s7/\tn i s7.heap/\(∀ b ∈ fp,H' b=none)/\W i m σ' H':=fun {σ7 H7} I7 n7=>by
   obtain ⟨m',hm,w7⟩:=hN σ7 H7 n7;refine ⟨m',hm,i + 1,σ7,H7,I7.unpinned,T.keep _ _ _ st5 fun b hb o e=>(I7.pin (b,o) (List.mem_append_right _ (List.mem_append_right _ (a4x hb e)))).1,fun b hb=>?_,w7⟩;obtain ⟨o,e,d⟩:=T.obj _ _ st5 b hb;exact (I7.pin (b,o) (List.mem_append_right _ (List.mem_append_right _ (a4x hb e)))).2.1
  cases f with
  | next=>obtain ⟨σ7,H7,I7,n7⟩:=q7; exact again I7 n7
  | cont=>obtain ⟨σ7,H7,I7,n7⟩:=q7; exact again I7 n7
  | brk=>obtain ⟨σ7,H7,I7,q7⟩:=q7; exact ⟨σ7,H7,I7.unpinned,q7⟩
  | ret v=>obtain ⟨x7,σ7,H7,I7,r7,q7⟩:=q7; exact ⟨x7,σ7,H7,I7.unpinned,r7,q7⟩
end
theorem for_list {K:PySem.W.Frag}{a:Addr}{xs:List V}(Pv:Nat->St->Hp->Prop)(h0:Pv 0 σ H)(hl:∀ i σ H,i <= xs.length->Pv i σ H->SqL K H a xs)
  (hs:∀ i x σ H,xs[i]? = some x->Pv i σ H->g x σ H fun σ2 H2=>tb { D with nx:=Pv (i + 1),ct:=Pv (i + 1),bk:=D.nx } σ2 H2) (hd:∀ σ H,Pv xs.length σ H->D.nx σ H) :
  ∃ W:Nat->Nat->St->Hp->Prop,(∃ m,W 0 m σ H)/\∀ i m σ H,W i m σ H->
   ((Itl K a).stop i H/\D.nx σ H)\/((Itl K a).go i H/\∃ N:St->Hp->Prop,(∀ σ' H',N σ' H'->∃ m',m' < m/\W (i + 1) m' σ' H')/\∀ x H',(Itl K a).yld i H x H'->g x σ H' fun σ2 H2=>tb { D with nx:=N,ct:=N,bk:=D.nx } σ2 H2):=by
 refine ⟨fun i m σ H=>m=xs.length - i/\i <= xs.length/\Pv i σ H,⟨xs.length,by simp,Nat.zero_le _,h0⟩,?_⟩;rintro i m σ H ⟨rfl,hi,p⟩;have q:=hl i σ H hi p
 by_cases hlt:i < xs.length
 ·refine .inr ⟨⟨xs,xs[i],q,by simp [hlt]⟩,Pv (i + 1),fun σ' H' p'=>⟨xs.length - (i + 1),by omega,rfl,hlt,p'⟩,fun x H' y=>?_⟩;obtain ⟨e,y⟩:=y;subst e;exact hs i x σ _ (y xs q) p
 ·have e:i=xs.length:=by omega
  subst e;exact .inl ⟨⟨xs,q,Nat.le_refl _⟩,hd σ H p⟩
theorem for_range {n:Nat}(Pv:Nat->St->Hp->Prop)(h0:Pv 0 σ H)
  (hs:∀ i σ H,i < n->Pv i σ H->g (.int (lo + i)) σ H fun σ2 H2=>tb { D with nx:=Pv (i + 1),ct:=Pv (i + 1),bk:=D.nx } σ2 H2) (hd:∀ σ H,Pv n σ H->D.nx σ H) :
  ∃ W:Nat->Nat->St->Hp->Prop,(∃ m,W 0 m σ H)/\∀ i m σ H,W i m σ H->
   ((Itr lo n).stop i H/\D.nx σ H)\/((Itr lo n).go i H/\∃ N:St->Hp->Prop,(∀ σ' H',N σ' H'->∃ m',m' < m/\W (i + 1) m' σ' H')/\∀ x H',(Itr lo n).yld i H x H'->g x σ H' fun σ2 H2=>tb { D with nx:=N,ct:=N,bk:=D.nx } σ2 H2):=by
 refine ⟨fun i m σ H=>m=n - i/\i <= n/\Pv i σ H,⟨n,by simp,Nat.zero_le _,h0⟩,?_⟩;rintro i m σ H ⟨rfl,hi,p⟩
 by_cases hlt:i < n
 ·refine .inr ⟨hlt,Pv (i + 1),fun σ' H' p'=>⟨n - (i + 1),by omega,rfl,hlt,p'⟩,fun x H' y=>?_⟩;obtain ⟨e,y⟩:=y;subst e y;exact hs i σ _ hlt p
 ·have e:i=n:=by omega
  subst e;exact .inl ⟨Nat.le_refl _,hd σ H p⟩
end L2
namespace L2
open PySem PySem.Spec PyProof.Rows
variable {op:CmpOp}{H:Hp}{i j:Int}{pins:List (Addr × Obj)}{us:List Value}{s:Shared}{σ:St}{x:V}
abbrev R2:=V->V->Hp->VK->Prop
def OpR (X:Cx)(f:Value->Value->Sem Value)(r:R2):Prop:=
 ∀ (pins:List (Addr × Obj)) (s:Shared) (σ:St) (H:Hp) (x y:V) (v u:Value) (Q:VK),Inv X pins σ H s->a2s x v->a2s y u->r x y H Q->
  wpAny (model X.prog X.w) X.A (f v u) (EP X pins σ Q) X.xe s
def UnR (X:Cx)(f:Value->Sem Value)(r:V->Hp->VK->Prop):Prop:=
 ∀ (pins:List (Addr × Obj)) (s:Shared) (σ:St) (H:Hp) (x:V) (v:Value) (Q:VK),Inv X pins σ H s->a2s x v->r x H Q->
  wpAny (model X.prog X.w) X.A (f v) (EP X pins σ Q) X.xe s
def b1s (X:Cx)(f:Value)(r:List V->Hp->VK->Prop):Prop:=
 ∀ (pins:List (Addr × Obj)) (s:Shared) (σ:St) (H:Hp) (xs:List V) (us:List Value) (Q:VK),Inv X pins σ H s->a2t xs us->r xs H Q->
  wpAny (model X.prog X.w) X.A (call f us) (EP X pins σ Q) X.xe s
def tOp (r:R2)(ta tb:TE):TE:=fun σ H Q=>ta σ H fun x H1=>tb σ H1 fun y H2=>r x y H2 Q
def tUn (r:V->Hp->VK->Prop)(ta:TE):TE:=fun σ H Q=>ta σ H fun x H1=>r x H1 Q
def rI (C:Int->Int->Prop)(g:Int->Int->V):R2:=fun x y H Q=>∃ i j,x=.int i/\y=.int j/\C i j/\Q (g i j) H
def rI0 (g:Int->Int->V):R2:=fun x y H Q=>∃ i j,x=.int i/\y=.int j/\Q (g i j) H
def rU (g:Int->V):V->Hp->VK->Prop:=fun x H Q=>∃ i,x=.int i/\Q (g i) H
section
variable {X:Cx}{a b c:Expr}{ta tb tc:TE}{pos:Pos}
theorem binT (ha:PE X a ta)(hb:PE X b tb){R:V->V->Hp->Prop}(I:Inv X pins σ H s)
  (h:ta σ H fun x H1=>tb σ H1 fun y H2=>R x y H2) {Q:Value->Shared->Prop} {f:Value->Value->Sem Value}
  (hf:∀ v u s2 x y H2,Inv X pins σ H2 s2->a2s x v->a2s y u->R x y H2->wpAny (model X.prog X.w) X.A (f v u) Q X.xe s2) :
  wpAny (model X.prog X.w) X.A (eval a X.env) (fun v s₁=>wpAny (model X.prog X.w) X.A (eval b X.env) (fun u s₂=>wpAny (model X.prog X.w) X.A (f v u) Q X.xe s₂) X.xe s₁) X.xe s:=by
 refine thn (ha pins s σ H _ I h) fun v s1 ⟨x,H1,I1,r1,q1⟩=>?_;refine thn (hb pins s1 σ H1 _ I1 q1) fun u s2 ⟨y,H2,I2,r2,q2⟩=>?_;exact hf v u s2 x y H2 I2 r1 r2 q2
theorem a0j {op:Operator}{r:R2}(ho:OpR X (binaryOp op) r)(ha:PE X a ta)(hb:PE X b tb):PE X (.BinOp a op b pos) (tOp r ta tb):=by
 intro pins s σ H Q I h;exact wpAny_BinOp (binT ha hb I h fun v u s2 x y H2 I2 rx ry q=>ho pins s2 σ H2 x y v u Q I2 rx ry q)
theorem pe_un {op:UnaryOp}{r:V->Hp->VK->Prop}(ho:UnR X (unaryOp op) r)(ha:PE X a ta):PE X (.UnaryOp op a pos) (tUn r ta):=by
 intro pins s σ H Q I h;exact UnaryOp_ (thn (ha pins s σ H _ I h) fun v s1 ⟨x,H1,I1,r1,q1⟩=>ho pins s1 σ H1 x v Q I1 r1 q1)
theorem opI {f:Value->Value->Sem Value}{C:Int->Int->Prop}{g:Int->Int->Int}
  (rule:∀ (i j:Int) (t u:Tok) (s:Shared) (Q:Value->Shared->Prop) (E:Value->Shared->Prop),C i j->Q (.int (g i j) s.toks) { s with toks:=s.toks + 1 }->wpAny (model X.prog X.w) X.A (f (.int i t) (.int j u)) Q E s) :
  OpR X f (rI C fun i j=>.int (g i j)):=by
 intro pins s σ H x y v u Q I rx ry h;obtain ⟨i,j,rfl,rfl,hc,q⟩:=h;obtain ⟨t,rfl⟩:=rx;obtain ⟨t',rfl⟩:=ry;exact rule i j t t' s _ _ hc ⟨.int (g i j),H,I.tok _,⟨_,rfl⟩,q⟩
theorem opI0 {f:Value->Value->Sem Value}{g:Int->Int->Int}
  (rule:∀ (i j:Int) (t u:Tok) (s:Shared) (Q:Value->Shared->Prop) (E:Value->Shared->Prop),Q (.int (g i j) s.toks) { s with toks:=s.toks + 1 }->wpAny (model X.prog X.w) X.A (f (.int i t) (.int j u)) Q E s) :
  OpR X f (rI0 fun i j=>.int (g i j)):=by
 intro pins s σ H x y v u Q I rx ry h;obtain ⟨i,j,rfl,rfl,q⟩:=h;obtain ⟨t,rfl⟩:=rx;obtain ⟨t',rfl⟩:=ry;exact rule i j t t' s _ _ ⟨.int (g i j),H,I.tok _,⟨_,rfl⟩,q⟩
theorem opB0 {f:Value->Value->Sem Value}{g:Int->Int->Bool}
  (rule:∀ (i j:Int) (t u:Tok) (s:Shared) (Q:Value->Shared->Prop) (E:Value->Shared->Prop),Q (.bool (g i j)) s->wpAny (model X.prog X.w) X.A (f (.int i t) (.int j u)) Q E s) :
  OpR X f (rI0 fun i j=>.bl (g i j)):=by
 intro pins s σ H x y v u Q I rx ry h;obtain ⟨i,j,rfl,rfl,q⟩:=h;obtain ⟨t,rfl⟩:=rx;obtain ⟨t',rfl⟩:=ry;exact rule i j t t' s _ _ ⟨.bl (g i j),H,I,rfl,q⟩
def CPow (i j:Int):Prop:=0 <= j/\j <= 1000000/\i.natAbs < 2 ^ 64
def CMul (i j:Int):Prop:=(-(2 ^ 64) < i/\i < 2 ^ 64)\/(-(2 ^ 64) < j/\j < 2 ^ 64)
theorem CMul.ok (h:CMul i j):IntMulOk i j:=by
 rcases h with ⟨h1,h2⟩ | ⟨h1,h2⟩
 ·exact .of_left (intBits_le_64 h1 h2)
 ·exact .of_right (intBits_le_64 h1 h2)
theorem two_pow_nn (k:Nat):(0:Int) <= 2 ^ k:=by
 rw [two_pow_cast];exact Int.natCast_nonneg _
theorem a4a:OpR X (binaryOp .Add) (rI0 fun i j=>.int (i + j)):=opI0 fun _ _ _ _ _ _ _ q=>add_int q
theorem a6b:OpR X (binaryOp .Sub) (rI0 fun i j=>.int (i - j)):=opI0 fun _ _ _ _ _ _ _ q=>sub_int q
theorem op_mul:OpR X (binaryOp .Mult) (rI CMul fun i j=>.int (i * j)):=opI fun _ _ _ _ _ _ _ hc q=>mul_int q hc.ok
theorem a8x:OpR X (binaryOp .Mod) (rI (fun _ j=>0 < j) fun i j=>.int (i % j)):=opI fun i j _ _ _ _ _ hc q=>by
 have h1:(0:Int) < j:=hc;exact mod_int' (by omega) (by rw [Int.fmod_eq_emod_of_nonneg i (by omega)]; exact q)
theorem op_pow:OpR X (binaryOp .Pow) (rI CPow fun i j=>.int (i ^ j.toNat)):=opI fun _ _ _ _ _ _ _ hc q=>pow_int_small hc.1 hc.2.1 hc.2.2 q
theorem a2d:OpR X (binaryOp .LShift) (rI CPow fun i j=>.int (i * 2 ^ j.toNat)):=opI fun _ _ _ _ _ _ _ hc q=>lshift_int_small hc.1 hc.2.1 hc.2.2 q
theorem a7v:OpR X (binaryOp .RShift) (rI (fun _ j=>0 <= j) fun i j=>.int (i / 2 ^ j.toNat)):=opI fun i j _ _ _ _ _ hc q=>
 rshift_int hc (by rw [Int.fdiv_eq_ediv_of_nonneg i (two_pow_nn _)]; exact q)
theorem a2g:OpR X (binaryOp .BitAnd) (rI0 fun i j=>.int (Builtin.bitAnd i j)):=opI0 fun _ _ _ _ _ _ _ q=>and_int q
theorem op_or:OpR X (binaryOp .BitOr) (rI0 fun i j=>.int (Builtin.bitOr i j)):=opI0 fun _ _ _ _ _ _ _ q=>or_int q
theorem a1g:OpR X (binaryOp .BitXor) (rI0 fun i j=>.int (Builtin.bitXor i j)):=opI0 fun _ _ _ _ _ _ _ q=>xor_int q
theorem unI {f:Value->Sem Value}{g:Int->Int}
  (rule:∀ (i:Int) (t:Tok) (s:Shared) (Q:Value->Shared->Prop) (E:Value->Shared->Prop),Q (.int (g i) s.toks) { s with toks:=s.toks + 1 }->wpAny (model X.prog X.w) X.A (f (.int i t)) Q E s) :
  UnR X f (rU fun i=>.int (g i)):=by
 intro pins s σ H x v Q I rx h;obtain ⟨i,rfl,q⟩:=h;obtain ⟨t,rfl⟩:=rx;exact rule i t s _ _ ⟨.int (g i),H,I.tok _,⟨_,rfl⟩,q⟩
theorem un_neg:UnR X (unaryOp .USub) (rU fun i=>.int (-i)):=unI fun _ _ _ _ _ q=>neg_int q
end
def scal:V->V->Bool
 | .non,.non=>true | .non,.int _=>true | .int _,.non=>true | .non,.bl _=>true | .bl _,.non=>true | .non,.str _=>true | .str _,.non=>true
 | .int _,.int _=>true | .bl _,.bl _=>true | .str _,.str _=>true | .byt _,.byt _=>true
 | .int _,.str _=>true | .str _,.int _=>true | .bl _,.str _=>true | .str _,.bl _=>true
 | _,_=>false
def rEq:R2:=fun x y H Q=>scal x y=true/\Q (.bl (decide (x=y))) H
def rNe:R2:=fun x y H Q=>scal x y=true/\Q (.bl (!decide (x=y))) H
theorem dec_int :decide (V.int i=V.int j) = (i == j):=by
 rw [Bool.eq_iff_iff];simp
theorem dec_bl {i j:Bool}:decide (V.bl i=V.bl j) = (i == j):=by
 rw [Bool.eq_iff_iff];simp
theorem dec_str {i j:Str}:decide (V.str i=V.str j) = (i == j):=by
 rw [Bool.eq_iff_iff];simp
theorem dec_byt {i j:Array UInt8}:decide (V.byt i=V.byt j) = (i.toList == j.toList):=by
 rw [Bool.eq_iff_iff];cases i;cases j;simp
section
variable {X:Cx}{a b c:Expr}{ta tb tc:TE}{pos:Pos}
theorem a1n {Q:VK}{k k':Bool}(I:Inv X pins σ H s)(q:Q (.bl k) H)(e:k=k'):EP X pins σ Q (.bool k') s:=by
 subst e;exact ⟨.bl k,H,I,rfl,q⟩
theorem a6n:OpR X (compareOp .Eq) rEq:=by
 intro pins s σ H x y v u Q I rx ry h;obtain ⟨hs,q⟩:=h
 cases x with
 | non=>
  cases rx
  cases y with
  | non=>cases ry; exact PySem.EqNone.eq_none_none (a1n I q (by simp))
  | bl j=>cases ry; exact PySem.EqNone.eq_none_bool (a1n I q (by simp))
  | int j=>obtain ⟨t',rfl⟩:=ry; exact PySem.EqNone.eq_none_int (a1n I q (by simp))
  | str j=>obtain ⟨t',rfl⟩:=ry; exact PySem.EqNone.eq_none_str (a1n I q (by simp))
  | _=>exact absurd (show false=true from hs) Bool.false_ne_true
 | bl i=>
  cases rx
  cases y with
  | non=>cases ry; exact PySem.EqNone.eq_bool_none (a1n I q (by simp))
  | bl j=>cases ry; exact eq_bool (a1n I q dec_bl)
  | str j=>obtain ⟨t',rfl⟩:=ry; exact PySem.EqMixed.eq_bool_str (a1n I q (by simp))
  | _=>exact absurd (show false=true from hs) Bool.false_ne_true
 | int i=>
  obtain ⟨t,rfl⟩:=rx
  cases y with
  | non=>cases ry; exact PySem.EqNone.eq_int_none (a1n I q (by simp))
  | int j=>obtain ⟨t',rfl⟩:=ry; exact eq_int (a1n I q dec_int)
  | str j=>obtain ⟨t',rfl⟩:=ry; exact PySem.EqMixed.eq_int_str (a1n I q (by simp))
  | _=>exact absurd (show false=true from hs) Bool.false_ne_true
 | str i=>
  obtain ⟨t,rfl⟩:=rx
  cases y with
  | non=>cases ry; exact PySem.EqNone.eq_str_none (a1n I q (by simp))
  | bl j=>cases ry; exact PySem.EqMixed.eq_str_bool (a1n I q (by simp))
  | int j=>obtain ⟨t',rfl⟩:=ry; exact PySem.EqMixed.eq_str_int (a1n I q (by simp))
  | str j=>obtain ⟨t',rfl⟩:=ry; exact eq_str (a1n I q dec_str)
  | _=>exact absurd (show false=true from hs) Bool.false_ne_true
 | byt i=>
  obtain ⟨t,rfl⟩:=rx
  cases y with
  | byt j=>obtain ⟨t',rfl⟩:=ry; exact PySem.W.eq_bytes (a1n I q dec_byt)
  | _=>exact absurd (show false=true from hs) Bool.false_ne_true
 | _=>cases y <;> exact absurd (show false=true from hs) Bool.false_ne_true
theorem op_ne:OpR X (compareOp .NotEq) rNe:=by
 intro pins s σ H x y v u Q I rx ry h;obtain ⟨hs,q⟩:=h
 cases x with
 | non=>
  cases rx
  cases y with
  | non=>cases ry; exact PySem.EqNone.ne_none_none (a1n I q (by simp))
  | bl j=>cases ry; exact PySem.EqNone.ne_none_bool (a1n I q (by simp))
  | int j=>obtain ⟨t',rfl⟩:=ry; exact PySem.EqNone.ne_none_int (a1n I q (by simp))
  | str j=>obtain ⟨t',rfl⟩:=ry; exact PySem.EqNone.ne_none_str (a1n I q (by simp))
  | _=>exact absurd (show false=true from hs) Bool.false_ne_true
 | bl i=>
  cases rx
  cases y with
  | non=>cases ry; exact PySem.EqNone.ne_bool_none (a1n I q (by simp))
  | bl j=>cases ry; exact ne_bool (a1n I q (congrArg not dec_bl))
  | str j=>obtain ⟨t',rfl⟩:=ry; exact PySem.EqMixed.ne_bool_str (a1n I q (by simp))
  | _=>exact absurd (show false=true from hs) Bool.false_ne_true
 | int i=>
  obtain ⟨t,rfl⟩:=rx
  cases y with
  | non=>cases ry; exact PySem.EqNone.ne_int_none (a1n I q (by simp))
  | int j=>obtain ⟨t',rfl⟩:=ry; exact ne_int (a1n I q (congrArg not dec_int))
  | str j=>obtain ⟨t',rfl⟩:=ry; exact PySem.EqMixed.ne_int_str (a1n I q (by simp))
  | _=>exact absurd (show false=true from hs) Bool.false_ne_true
 | str i=>
  obtain ⟨t,rfl⟩:=rx
  cases y with
  | non=>cases ry; exact PySem.EqNone.ne_str_none (a1n I q (by simp))
  | bl j=>cases ry; exact PySem.EqMixed.ne_str_bool (a1n I q (by simp))
  | int j=>obtain ⟨t',rfl⟩:=ry; exact PySem.EqMixed.ne_str_int (a1n I q (by simp))
  | str j=>obtain ⟨t',rfl⟩:=ry; exact ne_str (a1n I q (congrArg not dec_str))
  | _=>exact absurd (show false=true from hs) Bool.false_ne_true
 | byt i=>
  obtain ⟨t,rfl⟩:=rx
  cases y with
  | byt j=>obtain ⟨t',rfl⟩:=ry; exact PySem.W.ne_bytes (a1n I q (congrArg not dec_byt))
  | _=>exact absurd (show false=true from hs) Bool.false_ne_true
 | _=>cases y <;> exact absurd (show false=true from hs) Bool.false_ne_true
theorem op_lt:OpR X (compareOp .Lt) (rI0 fun i j=>.bl (decide (i < j))):=opB0 fun _ _ _ _ _ _ _ q=>lt_int q
theorem op_le:OpR X (compareOp .LtE) (rI0 fun i j=>.bl (decide (i <= j))):=opB0 fun _ _ _ _ _ _ _ q=>le_int q
theorem op_gt:OpR X (compareOp .Gt) (rI0 fun i j=>.bl (decide (j < i))):=opB0 fun _ _ _ _ _ _ _ q=>gt_int q
theorem op_ge:OpR X (compareOp .GtE) (rI0 fun i j=>.bl (decide (j <= i))):=opB0 fun _ _ _ _ _ _ _ q=>ge_int q
theorem a1d (b:Expr)(h:op ≠ .In:=by decide)(h2:op ≠ .NotIn:=by decide):behindInMarks op b=false:=by
 have e1:(op == CmpOp.In) = false:=by cases op <;> first | rfl | exact absurd rfl h
 have e2:(op == CmpOp.NotIn) = false:=by cases op <;> first | rfl | exact absurd rfl h2
 cases b <;> simp [behindInMarks,e1,e2]
theorem b1h {r:R2}(ho:OpR X (compareOp op) r)(ha:PE X a ta)(hb:PE X b tb)(hm:behindInMarks op b=false):PE X (.Compare a [op] [b] pos) (tOp r ta tb):=by
 intro pins s σ H Q I h;exact wpAny_Compare1 (binT ha hb I h fun v u s2 x y H2 I2 rx ry q=>ho pins s2 σ H2 x y v u Q I2 rx ry q) hm
def tTest (t:TE):TT:=fun σ H Q=>t σ H fun x H'=>∃ k,x=.bl k/\Q k H'
theorem a0v {r:R2}(ho:OpR X (compareOp op) r)(ha:PE X a ta)(hb:PE X b tb)(hm:behindInMarks op b=false):PT X (.Compare a [op] [b] pos) (tTest (tOp r ta tb)):=by
 intro pins s σ H Q I h
 refine wpAny_isTrue_Compare1 (thn (ha pins s σ H _ I h) fun v s1 ⟨x,H1,I1,r1,q1⟩=>thn (hb pins s1 σ H1 _ I1 q1) fun u s2 ⟨y,H2,I2,r2,q2⟩=>
  thn (ho pins s2 σ H2 x y v u _ I2 r1 r2 q2) fun c s3 ⟨z,H3,I3,r3,k,e,q3⟩=>?_) hm
 subst e;cases r3;exact wpAny_truthy_bool ⟨H3,I3,q3⟩
def tChain (r r':R2)(ta tb tc:TE):TE:=fun σ H Q=>ta σ H fun x H1=>tb σ H1 fun y H2=>r x y H2 fun z H3=>∃ k,z=.bl k/\
 (if k=true then tc σ H3 fun w' H4=>r' y w' H4 Q else Q (.bl false) H3)
theorem pe_chain {op':CmpOp}{r r':R2}(ho:OpR X (compareOp op) r)(ho':OpR X (compareOp op') r')(ha:PE X a ta)(hb:PE X b tb)(hc:PE X c tc)
  (hm:lastMarks [op,op'] [b,c] = false:=by with_unfolding_all rfl):PE X (.Compare a [op,op'] [b,c] pos) (tChain r r' ta tb tc):=by
 intro pins s σ H Q I h
 refine Compare_chain (thn (ha pins s σ H _ I h) fun v s1 ⟨x,H1,I1,r1,q1⟩=>chain_link (thn (hb pins s1 σ H1 _ I1 q1) fun u s2 ⟨y,H2,I2,r2,q2⟩=>
  thn (ho pins s2 σ H2 x y v u _ I2 r1 r2 q2) fun d s3 ⟨z,H3,I3,r3,k,e,q3⟩=>?_)) hm
 subst e;cases r3;refine wpAny_truthy_bool ?_
 cases k with
 | false=>exact ite_ff ⟨.bl false,H3,I3,rfl,q3⟩
 | true=>exact ite_tt (chain_last (thn (hc pins s3 σ H3 _ I3 q3) fun w' s4 ⟨z',H4,I4,r4,q4⟩=>ho' pins s4 σ H4 y z' u w' Q I4 r2 r4 q4))
theorem line63:(sizeLine:Nat) < 2 ^ 63:=by rw [sizeLine_eq]; decide
theorem vals1 (r:a2t [x] us):∃ u,us=[u]/\a2s x u:=by
 cases r with
 | cons r1 r2=>cases r2; exact ⟨_,rfl,r1⟩
theorem vals2 {y:V}(r:a2t [x,y] us):∃ u w',us=[u,w']/\a2s x u/\a2s y w':=by
 cases r with
 | cons r1 r2=>
  cases r2 with
  | cons r3 r4=>cases r4; exact ⟨_,_,rfl,r1,r3⟩
theorem call_max2 (hc:X.calm=true):b1s X (.builtin "max") (fun xs H Q=>∃ i j,xs=[.int i,.int j]/\Q (.int (if j > i then j else i)) H):=by
 intro pins s σ H xs us Q I r h;obtain ⟨i,j,rfl,q⟩:=h;obtain ⟨u,w',rfl,⟨t,rfl⟩,⟨t',rfl⟩⟩:=vals2 r;refine max_two_ints (I.ok.hd hc) fun h' tk k=>⟨_,H,I.kept k,?_,q⟩
 by_cases hj:j > i
 ·rw [if_pos hj,if_pos hj]; exact ⟨_,rfl⟩
 ·rw [if_neg hj,if_neg hj]; exact ⟨_,rfl⟩
end
end L2
namespace L2
open PySem PySem.Spec PyProof.Rows
variable {C dx:Addr}{h:Heap}{o:Option Value}{K:PySem.W.Frag}{pl:Sem Bool}{v:V}{u:Value}
structure ObjM (h:Heap)(x dx C:Addr)(mA:Str->Option Value):Prop where
 obj:h.get? x=some (PySem.W.instObj C dx)
 ns:h.Ns1 dx mA
 ne:dx ≠ x
theorem lookIn_ns {mA:Str->Option Value}(n:h.Ns1 dx mA):∃ od,h.get? dx=some od/\∀ name,PySem.W.lookIn name od=some (mA name):=by
 obtain ⟨o,es,ep,ho,hd,hk,_,hm⟩:=n;refine ⟨o,ho,fun name=>?_⟩;have e:=hm name;unfold nsFind findBy at e;rw [<- Array.find?_toList] at e;unfold PySem.W.lookIn;rw [hd];dsimp only
 split
 ·rename_i y q;rw [q] at e;exact congrArg some e
 ·rename_i q;rw [q] at e
  have a:es.toList.any (·.refKey) = false:=by
   rw [List.any_eq_false];intro y hy;obtain ⟨z,t,hkey⟩:=hk y (Array.mem_toList_iff.mp hy);simp [DictEntry.refKey,hkey]
  have a':¬ es.toList.any (·.refKey) = true:=by rw [a]; exact Bool.false_ne_true
  rw [if_neg a'];exact congrArg some e
theorem ObjM.look {x:Addr}{mA:Str->Option Value}(I:ObjM h x dx C mA):∃ od,PySem.W.InstAt h x (PySem.W.instObj C dx) C (some od)/\∀ name,PySem.W.lookIn name od=some (mA name):=
 let ⟨od,ho,hl⟩:=lookIn_ns I.ns
 ⟨od,⟨I.obj,rfl,rfl,ho⟩,hl⟩
section
variable {prog:Program}{w:World}{A:Around}{E:Value->Shared->Prop}{s:Shared}{K:PySem.W.Frag}{x dx C f:Addr}{mA:Str->Option Value}{name:Str}{v:Value}
theorem get_map {expr:Bool}{Q:Value->Shared->Prop}(X:K.In s.heap)(I:ObjM s.heap x dx C mA)(hg:PySem.W.plainGet K C name=true)(hh:PySem.W.hasDictIn K C=true)
  (ha:PySem.W.findIn K (.ref C) name=some none) (hv:mA name=some v) (hv':PySem.W.handedIn v=true) (h:Q v { s with toks:=s.toks + 1 }) :
  wpAny (model prog w) A (getAttr (.ref x) name expr) Q E s:=by
 obtain ⟨od,J,hl⟩:=I.look;exact PySem.W.get_value X J (PySem.W.plainGet_of hg).1 (PySem.W.findObj_own hh ha rfl (by rw [hl,hv])) hv' h
theorem get_meth {Q:Value × List Value->Shared->Prop}(X:K.In s.heap)(I:ObjM s.heap x dx C mA)(hg:PySem.W.plainGet K C name=true)
  (hf:PySem.W.findIn K (.ref C) name=some (some (.ref f))) (ht:PySem.W.isFn K (.ref f) = true) (hv:mA name=none) (h:Q (.ref f,[.ref x]) s) :
  wpAny (model prog w) A (getMethod (.ref x) name pl) Q E s:=by
 obtain ⟨od,J,hl⟩:=I.look;exact PySem.W.method_fn X J (PySem.W.plainGet_of hg).1 (PySem.W.plainGet_of hg).2 hf (beq_iff_eq.mp ht) (by show (PySem.W.lookIn name od).map (·.isSome) = some false; rw [hl,hv]; rfl) h
theorem set_map {ns:List Str}{Q:Unit->Shared->Prop}(X:K.In s.heap)(I:ObjM s.heap x dx C mA)
  (hs:PySem.W.findIn K (.ref C) "__setattr__" = some (some (.builtin "object.__setattr__"))) (hp:PySem.W.plainOver K C=true) (ht:PySem.W.takerIn K C name=some none) (hh:PySem.W.hasDictIn K C=true)
  (hw:PySem.Within mA ns) (hsz:ns.length <= sizeLine)
  (h:∀ h',ObjM h' x dx C (fun y=>if y=name then some v else mA y)->Heap.SameBut dx s.heap h'->Q () { s with heap:=h',toks:=s.toks + 2 }) :
  wpAny (model prog w) A (setAttr (.ref x) name v) Q E s:=by
 obtain ⟨od,J,hl⟩:=I.look;refine PySem.W.set_plain X J hs (PySem.W.osa_open (s:={ s with toks:=s.toks + 1 }) (r:=none) X J hp ht fun b=>?_);obtain ⟨cd,hc,hd'⟩:=PySem.W.any_some hh;have hx:s.heap.get? x=some ⟨.ref C,some dx,.plain,#[]⟩:=I.obj;refine wpAny_bind (wpAny_pure (wpAny_bind (wpAny_bind (wpAny_loadPart hx (wpAny_bind (PySem.W.Looks.here (s:={ s with toks:=s.toks + 1 }) (PySem.W.looks_clsIn X hc) ?_))))));rw [hd'];refine wpAny_pure (a:=some dx) (wpAny_bind (wpAny_pure (wpAny_bind ?_)));refine wpAny_nsSet1 (s:={ s with toks:=s.toks + 1 }) I.ns fun h' hn2 hs2=>?_;obtain ⟨oD,esD,epD,hoD,hdD,hcD⟩:=hn2.count (PySem.Within.cons name v hw);refine wpAny_bind (wpAny_lookBehind hoD (by rw [hdD]; exact pastItsLine_dict (Nat.le_trans hcD (by rw [List.length_cons]; omega))) ?_);exact wpAny_pure (h _ ⟨(hs2.2 _ (Ne.symm I.ne)).trans I.obj,hn2,I.ne⟩ hs2)
theorem make_map {R:Result->Shared->Prop}{vs:List Value}{kw:List (Str × Value)}(X:K.In s.heap)(hm:PySem.W.makesIn K C=true)
  (hi:PySem.W.findIn K (.ref C) "__init__" = some (some (.ref f))) (hf:PySem.W.typeIn K (.ref f) = some (.type "function"))
  (h:codeAny (model prog w) (A.under (.builtin "type.__call__" ⟨.ref C :: vs,kw⟩)) (.call (.ref f) ⟨.ref (s.heap.objs.size + 1) :: vs,kw⟩) (PySem.W.InitBack (s.heap.objs.size + 1) R)
   { s with heap:=(s.heap.push PySem.W.emptyDict).push (PySem.W.instObj C s.heap.objs.size) }) :
  codeAny (model prog w) A (.call (.ref C) ⟨vs,kw⟩) R s:=by
 obtain ⟨hh,g,d,t,os⟩:=s;exact PySem.W.make_core (PySem.W.makes_of X hm) (PySem.W.looks_findIn X hi) (fun self=>PySem.W.bind_fn X self hf) (.inl rfl) h
end
def b3j (f:Str)(v:V):List (Str × V)->List (Str × V)
 | []=>[(f,v)]
 | (g,x) :: r=>if g=f then (g,v) :: r else (g,x) :: b3j f v r
theorem b3u (f g:Str)(v:V):∀ fs:List (Str × V),(b3j f v fs).lookup g=if g=f then some v else fs.lookup g
 | []=>by
  show List.lookup g [(f,v)] = _
  by_cases h:g=f
  ·have hb:(g == f) = true:=beq_iff_eq.mpr h;simp only [List.lookup,hb,if_pos h]
  ·have hb:(g == f) = false:=beq_eq_false_iff_ne.mpr h;simp only [List.lookup,hb,if_neg h]
 | (k,x) :: r=>by
  have ih:=b3u f g v r;rw [show b3j f v ((k,x) :: r) = (if k=f then (k,v) :: r else (k,x) :: b3j f v r) from rfl]
  by_cases hk:k=f
  ·rw [if_pos hk]
   by_cases h:g=k
   ·have hb:(g == k) = true:=beq_iff_eq.mpr h;simp only [List.lookup,hb,if_pos (h.trans hk)]
   ·have hb:(g == k) = false:=beq_eq_false_iff_ne.mpr h;simp only [List.lookup,hb,if_neg (fun e:g=f=>h (e.trans hk.symm))]
  ·rw [if_neg hk]
   by_cases h:g=k
   ·have hb:(g == k) = true:=beq_iff_eq.mpr h;simp only [List.lookup,hb,if_neg (fun e:g=f=>hk (h.symm.trans e))]
   ·have hb:(g == k) = false:=beq_eq_false_iff_ne.mpr h;simp only [List.lookup,hb];exact ih
theorem b3y (f:Str)(v:V):∀ fs:List (Str × V),f ∈ (b3j f v fs).map (·.1)/\∀ g,g ∈ fs.map (·.1)->g ∈ (b3j f v fs).map (·.1)
 | []=>⟨by simp [b3j],fun g h=>by simp at h⟩
 | (k,x) :: r=>by
  obtain ⟨i1,i2⟩:=b3y f v r;rw [show b3j f v ((k,x) :: r) = (if k=f then (k,v) :: r else (k,x) :: b3j f v r) from rfl]
  by_cases hk:k=f
  ·rw [if_pos hk];subst hk;exact ⟨by simp,fun g h=>by simpa using h⟩
  ·rw [if_neg hk];refine ⟨?_,fun g h=>?_⟩
   ·rw [List.map_cons];exact List.mem_cons_of_mem _ i1
   ·rw [List.map_cons] at h ⊢
    rcases List.mem_cons.mp h with e | e
    ·exact List.mem_cons.mpr (.inl e)
    ·exact List.mem_cons_of_mem _ (i2 g e)
theorem b3g (f:Str)(v:V):∀ fs:List (Str × V),(b3j f v fs).length <= fs.length + 1
 | []=>by simp [b3j]
 | (k,x) :: r=>by
  have ih:=b3g f v r;rw [show b3j f v ((k,x) :: r) = (if k=f then (k,v) :: r else (k,x) :: b3j f v r) from rfl]
  by_cases hk:k=f
  ·rw [if_pos hk,List.length_cons,List.length_cons]; omega
  ·rw [if_neg hk,List.length_cons,List.length_cons]; omega
theorem RelO.some_of (r:RelO (some v) o):∃ u,o=some u/\a2s v u:=by
 cases o with
 | none=>exact (show False from r).elim
 | some u=>exact ⟨u,rfl,r⟩
theorem RelO.none_of (r:RelO none o):o=none:=by
 cases o with
 | none=>rfl
 | some u=>exact (show False from r).elim
theorem handed_of (r:a2s v u):PySem.W.handedIn u=true:=by
 cases v with
 | non=>cases (show u=Value.none from r); rfl
 | bl b=>cases (show u=Value.bool b from r); rfl
 | int i=>obtain ⟨t,e⟩:=(show ∃ t,u=Value.int i t from r); cases e; rfl
 | str x=>obtain ⟨t,e⟩:=(show ∃ t,u=Value.str x t from r); cases e; rfl
 | byt b=>obtain ⟨t,e⟩:=(show ∃ t,u=Value.bytes b t from r); cases e; rfl
 | flt b=>obtain ⟨t,e⟩:=(show ∃ t,u=Value.float b t from r); cases e; rfl
 | ref a=>cases (show u=Value.ref a from r); rfl
 | ty n=>cases (show u=Value.type n from r); rfl
section
variable {P:Program}{w:World}{H H':Hp}{h h':Heap}{a C dx:Addr}{fs fs':List (Str × V)}
theorem b6z (hok:HOk P w H h)(e:H a=some (.ins C dx fs)):∃ mA,ObjM h a dx C mA/\(∀ f,RelO (fs.lookup f) (mA f))/\PySem.Within mA (fs.map (·.1))/\fs.length <= 1000/\H dx=some (.own a):=by
 obtain ⟨d,z,ne,ob,mA,n,r,q⟩:=(show a2w P w H h a (.ins C dx fs) from hok a _ e);exact ⟨mA,⟨ob,n,ne⟩,r,q,z,d⟩
end
structure Cls (K:PySem.W.Frag)(C:Addr):Prop where
 pg:PySem.W.plainGet K C Str.empty=true
 hd:PySem.W.hasDictIn K C=true
 po:PySem.W.plainOver K C=true
 sa:PySem.W.findIn K (.ref C) "__setattr__" = some (some (.builtin "object.__setattr__"))
theorem Cls.get (c:Cls K C)(f:Str):PySem.W.plainGet K C f=true:=c.pg
def a7n (K:PySem.W.Frag)(C:Addr)(f:Str):Prop:=PySem.W.findIn K (.ref C) f=some none
theorem a7n.taker {f:Str}(n:a7n K C f):PySem.W.takerIn K C f=some none:=by
 unfold PySem.W.takerIn;rw [show PySem.W.findIn K (.ref C) f=some none from n];rfl
structure Meth (K:PySem.W.Frag)(C:Addr)(m:Str)(f:Addr):Prop where
 at_:PySem.W.findIn K (.ref C) m=some (some (.ref f))
 fn:PySem.W.isFn K (.ref f) = true
 kp:PySem.W.keepIn K (.ref f) = true
section
variable {X:Cx}{pins:List (Addr × Obj)}{σ:St}{H:Hp}{s:Shared}{a C dx:Addr}{fs:List (Str × V)}{f:Str}{v:V}{A:Around}{E:Value->Shared->Prop}
theorem getattr_ok {b:Bool}{Q:Value->Shared->Prop}(I:Inv X pins σ H s)(e:H a=some (.ins C dx fs))(c:Cls X.K C)(n:a7n X.K C f)(l:fs.lookup f=some v)
  (h:∀ u s',Inv X pins σ H s'->a2s v u->Q u s'):wpAny (model X.prog X.w) A (getAttr (.ref a) f b) Q E s:=by
 obtain ⟨mA,O,r,_,_,_⟩:=b6z I.hok e;obtain ⟨u,hu,ru⟩:=RelO.some_of (v:=v) (o:=mA f) (by rw [<- l]; exact r f);exact get_map I.kIn O (c.get f) c.hd n hu (handed_of ru) (h u _ (I.tok _) ru)
theorem b6c {m:Str}{g:Addr}{Q:Value × List Value->Shared->Prop}(I:Inv X pins σ H s)(e:H a=some (.ins C dx fs))(c:Cls X.K C)(k:Meth X.K C m g)(l:fs.lookup m=none)
  (h:Q (.ref g,[.ref a]) s):wpAny (model X.prog X.w) A (getMethod (.ref a) m pl) Q E s:=by
 obtain ⟨mA,O,r,_,_,_⟩:=b6z I.hok e;have hn:mA m=none:=RelO.none_of (by rw [<- l]; exact r m);exact get_meth I.kIn O (c.get m) k.at_ k.fn hn h
theorem setattr_ok {y:V}{Q:Unit->Shared->Prop}(I:Inv X pins σ H s)(e:H a=some (.ins C dx fs))(c:Cls X.K C)(n:a7n X.K C f)(hl:fs.length < 1000)(ry:a2s y u)
  (h:∀ s',Inv X pins σ (upd H a (.ins C dx (b3j f y fs))) s'->Q () s'):wpAny (model X.prog X.w) A (setAttr (.ref a) f u) Q E s:=by
 obtain ⟨mA,O,r,wi,_,ho⟩:=b6z I.hok e;have hz:(fs.map (·.1)).length <= sizeLine:=by rw [List.length_map,sizeLine_eq]; omega
 refine set_map I.kIn O c.sa c.po n.taker c.hd wi hz fun h' O' sb=>h _ ?_;have hd:∃ o,h'.get? dx=some o:=let ⟨o,_,_,e',_⟩:=O'.ns; ⟨o,e'⟩;refine I.write (x:=a) (e:=dx) (by rw [e]; exact True.intro) (.inr ho) (fun b q hb z=>(sb.2 b hb).trans z) hd ?_;refine ⟨by rw [a0m O.ne]; exact ho,?_,O.ne,O'.obj,_,O'.ns,fun g=>?_,fun g hg=>?_⟩
 ·have:=b3g f y fs; omega
 ·show RelO ((b3j f y fs).lookup g) (if g=f then some u else mA g);rw [b3u]
  by_cases q:g=f
  ·rw [if_pos q,if_pos q]; exact ry
  ·rw [if_neg q,if_neg q]; exact r g
 ·by_cases q:g=f
  ·rw [q]; exact (b3y f y fs).1
  ·refine (b3y f y fs).2 g (wi g fun z=>hg ?_);show (if g=f then some u else mA g) = none;rw [if_neg q]; exact z
theorem Inv.made (I:Inv X pins σ H s):Inv X pins σ (upd (upd H s.heap.objs.size (.own (s.heap.objs.size + 1))) (s.heap.objs.size + 1) (.ins C s.heap.objs.size []))
  { s with heap:=(s.heap.push PySem.W.emptyDict).push (PySem.W.instObj C s.heap.objs.size) }:=by
 have e1:(s.heap.push PySem.W.emptyDict).get? s.heap.objs.size=some PySem.W.emptyDict:=Heap.get?_push_size s.heap rfl
 have e2:((s.heap.push PySem.W.emptyDict).push (PySem.W.instObj C s.heap.objs.size)).get? (s.heap.objs.size + 1) = some (PySem.W.instObj C s.heap.objs.size):=by
  have:=Heap.get?_push_size (s.heap.push PySem.W.emptyDict) (o:=PySem.W.instObj C s.heap.objs.size) rfl
  rwa [Heap.size_push] at this
 have e3:(s.heap.push PySem.W.emptyDict).Ns s.heap.objs.size (fun _=>none):=⟨PySem.W.emptyDict,#[],_,e1,rfl,(fun e he=>absurd he (by simp)),fun _=>rfl⟩;have I1:=I.laid (a:=s.heap.objs.size) (o:=.own (s.heap.objs.size + 1)) (h':=s.heap.push PySem.W.emptyDict) (t':=s.toks) (fun b u q=>Heap.get?_push_of_some _ q) (Nat.le_refl _) ⟨_,e1⟩;refine I1.laid (a:=s.heap.objs.size + 1) (o:=.ins C s.heap.objs.size []) (t':=s.toks) (fun b u q=>Heap.get?_push_of_some _ q) (Nat.le_of_eq (Heap.size_push _ _)) ?_;have ne:s.heap.objs.size ≠ s.heap.objs.size + 1:=Nat.ne_of_lt (Nat.lt_succ_self _);refine ⟨by rw [a0m ne,a0c],Nat.zero_le _,ne,e2,fun _=>none,(Heap.Ns1.of_empty e3).at fun o q=>Heap.get?_push_of_some _ q,fun _=>True.intro,fun y hy=>absurd rfl hy⟩
theorem attr_of {prog:Program}{w:World}{env:Env}{e:Expr}{f:Str}{pos:Pos}{s:Shared}{Q:Value->Shared->Prop}(hb:attributeBase e f env (eval e env) = eval e env)
  (h:wpAny (model prog w) A (eval e env) (fun o s₁=>wpAny (model prog w) A (getAttr o f true) Q E s₁) E s):wpAny (model prog w) A (eval (.Attribute e f pos) env) Q E s:=
 Attribute_any_ h (by rw [arm_eval_Attribute,hb])
end
def tFld (K:PySem.W.Frag)(ta:TE)(f:Str):TE:=fun σ H Q=>ta σ H fun x H1=>∃ a C dx fs v,x=.ref a/\H1 a=some (.ins C dx fs)/\Cls K C/\a7n K C f/\fs.lookup f=some v/\Q v H1
def sFld (K:PySem.W.Frag)(ta tv:TE)(f:Str):TS:=fun D σ H=>tv σ H fun y H1=>ta σ H1 fun x H2=>∃ a C dx fs,x=.ref a/\H2 a=some (.ins C dx fs)/\Cls K C/\a7n K C f/\fs.length < 1000/\
 D.nx σ (upd H2 a (.ins C dx (b3j f y fs)))
section
variable {X:Cx}{o e value:Expr}{f:Str}{pos pos' tpos:Pos}{ta tv:TE}
theorem pe_fld (he:PE X e ta)(hb:attributeBase e f X.env (eval e X.env) = eval e X.env):PE X (.Attribute e f pos) (tFld X.K ta f):=by
 intro pins s σ H Q I h;refine attr_of hb (thn (he pins s σ H _ I h) fun u s1 ⟨x,H1,I1,rx,a,C,dx,fs,v,ex,ea,c,n,l,q⟩=>?_);subst ex;obtain rfl:u=Value.ref a:=rx;exact getattr_ok I1 ea c n l fun u' s2 I2 ru=>⟨v,H1,I2,ru,q⟩
theorem ps_fld (ha:PE X o ta)(hv:PE X value tv)(hs:swapsWith value (some (.Attribute o f pos')) pos.line X.env=pure false):PS X (.Assign [.Attribute o f pos'] value pos) (sFld X.K ta tv f):=by
 intro pins s σ H D I h;refine plainObj_wpAny_Assign_Attribute (thn (hv pins s σ H _ I h) fun u s1 ⟨y,H1,I1,ry,q⟩=>thn (ha pins s1 σ H1 _ I1 q) fun ov s2 ⟨x,H2,I2,rx,a,C,dx,fs,ex,ea,c,n,l,q2⟩=>?_) hs;subst ex;obtain rfl:ov=Value.ref a:=rx;exact setattr_ok I2 ea c n l ry fun s3 I3=>⟨σ,_,I3,q2⟩
end
section
variable {X:Cx}{pins:List (Addr × Obj)}{σ:St}{H:Hp}{s:Shared}{A:Around}{E:Value->Shared->Prop}{Q:Value->Shared->Prop}{c:Value}{b:Bool}
inductive b2q (K:PySem.W.Frag) (H:Hp):V->Value->Prop where
 | non:b2q K H .non (.type "NoneType")
 | bl (x:Bool):b2q K H (.bl x) (.type "bool")
 | int (i:Int):b2q K H (.int i) (.type "int")
 | str (x:Str):b2q K H (.str x) (.type "str")
 | flt (x:UInt64):b2q K H (.flt x) (.type "float")
 | lst {a:Addr} {xs:List V} (e:H a=some (.lst xs)):b2q K H (.ref a) (.type "list")
 | frz {a:Addr} {o:Obj} {xs:List V} (e:H a=some (.frz o (.lst xs))):b2q K H (.ref a) (.type "list")
 | tup {a:Addr} {xs:List V} (e:H a=some (.tup xs)):b2q K H (.ref a) (.type "tuple")
 | dK {a:Addr} {kvs:List (Key × V)} (e:H a=some (.dK kvs)):b2q K H (.ref a) (.type "dict")
 | dT {a:Addr} {kvs:List (List Key × V)} (e:H a=some (.dT kvs)):b2q K H (.ref a) (.type "dict")
 | ins {a C dx:Addr} {fs:List (Str × V)} (e:H a=some (.ins C dx fs)) (cl:Cls K C) (ha:PySem.W.findIn K (.ref C) "__class__" = some (some (.builtin "object.__class__")))
   (hn:PySem.W.specialIn K (.builtin "object.__class__") "__get__" = some (some (.builtin "getset_descriptor.__get__"))) (htk:PySem.W.takesIn K (.builtin "object.__class__") = some true)
   (hm:PySem.W.mroIn K C (.type "object") = some true):b2q K H (.ref a) (.ref C)
theorem isinst_ok {x:V}{t:Value}(I:Inv X pins σ H s)(rx:a2s x u)(ty:b2q X.K H x t)(e:PySem.W.kitOne X.K t c=some b)(h:∀ tk,Q (.bool b) { s with toks:=tk }) :
  wpAny (model X.prog X.w) A (call (.builtin "isinstance") [u,c]) Q E s:=by
 cases ty with
 | non=>cases (show u=Value.none from rx); exact PySem.W.kia_one PySem.W.kitx_none I.kIn True.intro e (fun z=>nomatch z) h
 | bl y=>cases (show u=Value.bool y from rx); exact PySem.W.kia_one PySem.W.kitx_bool I.kIn True.intro e (fun z=>nomatch z) h
 | int i=>obtain ⟨t,q⟩:=(show ∃ t,u=Value.int i t from rx); cases q; exact PySem.W.kia_one PySem.W.kitx_int I.kIn True.intro e (fun z=>nomatch z) h
 | str y=>obtain ⟨t,q⟩:=(show ∃ t,u=Value.str y t from rx); cases q; exact PySem.W.kia_one PySem.W.kitx_str I.kIn True.intro e (fun z=>nomatch z) h
 | flt y=>obtain ⟨t,q⟩:=(show ∃ t,u=Value.float y t from rx); cases q; exact PySem.W.kia_one PySem.W.kitx_float I.kIn True.intro e (fun z=>nomatch z) h
 | @lst a xs ea=>
  cases (show u=Value.ref a from rx);obtain ⟨_,_,n,_,h1⟩:=(show a2w X.prog X.w H s.heap a (.lst xs) from I.hok a _ ea);exact PySem.W.kia_one PySem.W.kitx_list I.kIn ⟨_,h1,rfl⟩ e (fun z=>nomatch z) h
 | @frz a ob xs ea=>
  cases (show u=Value.ref a from rx);obtain ⟨_,_,_,n,_,h1⟩:=(show a2w X.prog X.w H s.heap a (.frz ob (.lst xs)) from I.hok a _ ea);exact PySem.W.kia_one PySem.W.kitx_list I.kIn ⟨_,h1,rfl⟩ e (fun z=>nomatch z) h
 | @tup a xs ea=>
  cases (show u=Value.ref a from rx);obtain ⟨_,_,_,p⟩:=(show a2w X.prog X.w H s.heap a (.tup xs) from I.hok a _ ea);obtain ⟨o,h1,h2,_⟩:=p;exact PySem.W.kia_one PySem.W.kitx_tuple I.kIn ⟨o,h1,h2⟩ e (fun z=>nomatch z) h
 | @dK a kvs ea=>
  cases (show u=Value.ref a from rx);obtain ⟨_,_,vs,_,p⟩:=(show a2w X.prog X.w H s.heap a (.dK kvs) from I.hok a _ ea);obtain ⟨o,es,ep,h1,h2,_⟩:=p;exact PySem.W.kia_one PySem.W.kitx_dict I.kIn ⟨o,h1,h2.1⟩ e (fun z=>nomatch z) h
 | @dT a kvs ea=>
  cases (show u=Value.ref a from rx);obtain ⟨_,_,xs,_,o,es,ep,h1,h2,_⟩:=(show a2w X.prog X.w H s.heap a (.dT kvs) from I.hok a _ ea);exact PySem.W.kia_one PySem.W.kitx_dict I.kIn ⟨o,h1,h2.1⟩ e (fun z=>nomatch z) h
 | @ins a C dx fs ea cl ha hn htk hm=>
  cases (show u=Value.ref a from rx);obtain ⟨mA,O,_⟩:=b6z I.hok ea;obtain ⟨od,J,_⟩:=O.look;exact PySem.W.kia_one (PySem.W.kitx_own (cl.get _) cl.hd ha hn htk hm) I.kIn J e (fun z=>nomatch z) h
end
end L2
namespace L2
open PySem PySem.Spec PyProof.Rows
variable {C f:Addr}{A:Around}{H:Hp}{pins:List (Addr × Obj)}{kw:List (Str × Value)}{ps:List Str}{vs:List V}{us:List Value}{k:Nat}{P:Program}{K:PySem.W.Frag}{scope:Scope}{s:Shared}{σ:St}{qual:Str}{Q:VK}
structure a9v (k:Nat)(A:Around):Prop where
 hd:A.handled=none
 dp:A.depth + 3 * k + 5 < recursionLimit
 un:A.units + 16 * k + 200 < cLine
theorem a9v.mono {j:Nat}(r:a9v k A)(h:j <= k):a9v j A:=⟨r.hd,by have:=r.dp; omega,by have:=r.un; omega⟩
theorem a9v.deeper {k:Nat}{A:Around}(r:a9v (k + 1) A)(env:Env):a9v k (A.deeper env):=
 ⟨r.hd,by have:=r.dp; show A.depth + 1 + 3 * k + 5 < _; omega,by have:=r.un; show A.units + 3 + 16 * k + 200 < _; omega⟩
theorem make_depth :(A.under (.builtin "type.__call__" ⟨.ref C :: us,kw⟩)).depth=A.depth + 1:=by
 first | rfl | simp [Around.under,Code.weight,Code.isCreation,Code.isGuard,Code.isCaller,Code.frames,Code.isFrame,guardIds]
theorem make_units :(A.under (.builtin "type.__call__" ⟨.ref C :: us,kw⟩)).units=A.units + 1:=by
 first | rfl | simp [Around.under,Code.cUnits,Code.frames,Code.isFrame]
theorem a9v.make (r:a9v (k + 1) A)(C:Addr)(us:List Value)(kw:List (Str × Value)):a9v k (A.under (.builtin "type.__call__" ⟨.ref C :: us,kw⟩)):=
 ⟨r.hd,by have:=r.dp; rw [make_depth]; omega,by have:=r.un; rw [make_units]; omega⟩
theorem a9v.depth {k:Nat}{A:Around}(r:a9v k A):A.depth < recursionLimit:=by have:=r.dp; omega
theorem a9v.units {k:Nat}{A:Around}(r:a9v k A):A.units + 64 < cLine:=by have:=r.un; omega
def tNil:TA:=fun _ H Q=>Q [] H
def tCons (ta:TE)(tr:TA):TA:=fun σ H Q=>ta σ H fun x H1=>tr σ H1 fun xs H2=>Q (x :: xs) H2
section
variable {X:Cx}{e:Expr}{es:List Expr}{te:TE}{t:TA}{pos:Pos}
theorem a0f:PA X [] tNil:=fun _ _ _ _ H Q I h=>Calls.spliced_nil ⟨[],H,I,.nil,h⟩
theorem a0a (ha:PE X e te)(hr:PA X es t)(hs:starEach (e :: es) X.env=(false,eval e X.env) :: starEach es X.env:=by rfl):PA X (e :: es) (tCons te t):=by
 intro pos pins s σ H Q I h;rw [hs];show wpAny _ _ (spliced ((false,eval e X.env) :: backTo pos (starEach es X.env))) _ _ s;refine Calls.spliced_cons (thn (ha pins s σ H _ I h) fun u s1 ⟨x,H1,I1,r1,q1⟩=>?_);exact thn (hr pos pins s1 σ H1 _ I1 q1) fun us s2 ⟨xs,H2,I2,r2,q2⟩=>⟨x :: xs,H2,I2,.cons r1 r2,q2⟩
def tTup (t:TA):TE:=fun σ H Q=>t σ H fun xs H1=>xs.length <= sizeLine/\∀ p,H1 p=none->Q (.ref p) (upd H1 p (.tup xs))
def tLst (t:TA):TE:=fun σ H Q=>t σ H fun xs H1=>xs.length <= sizeLine/\∀ p,H1 p=none->Q (.ref p) (upd H1 p (.lst xs))
theorem a2r {x1}(h:PA X es t):PE X (.Tuple es x1 pos) (tTup t):=by
 intro pins s σ H Q I hq;refine wpAny_Tuple_spliced (thn (h pos pins s σ H _ I hq) fun us s1 ⟨xs,H1,I1,r,z,q⟩=>⟨by rw [<- r.length]; exact z,?_⟩);have hf:H1 s1.heap.objs.size=none:=I1.hok.fresh (Nat.le_refl _);refine ⟨.ref s1.heap.objs.size,upd H1 s1.heap.objs.size (.tup xs),I1.laid (t':=s1.toks) (fun b u e=>Heap.get?_push_of_some _ e) (Nat.le_refl _) ?_,rfl,q _ hf⟩;exact ⟨z,us,r,⟨_,Heap.get?_push_size _ rfl,rfl,_,rfl⟩⟩
theorem b3p (h:PA X es t):PE X (.List es pos) (tLst t):=by
 intro pins s σ H Q I hq;refine wpAny_List_spliced (thn (h pos pins s σ H _ I hq) fun us s1 ⟨xs,H1,I1,r,z,q⟩=>⟨by rw [<- r.length]; exact z,?_⟩);have hf:H1 s1.heap.objs.size=none:=I1.hok.fresh (Nat.le_refl _);refine ⟨.ref s1.heap.objs.size,upd H1 s1.heap.objs.size (.lst xs),I1.laid (t':=s1.toks) (fun b u e=>Heap.get?_push_of_some _ e) (Nat.le_refl _) ?_,rfl,q _ hf⟩;exact ⟨z,us,0,r,Heap.get?_push_size _ rfl⟩
end
abbrev Sp:=List V->Hp->VK->XK->Prop
abbrev CXT:=List Env->Hp->Shared->XK->Value->Shared->Prop
structure Env0 (P:Program)(w:World)(K:PySem.W.Frag)(mg:Str->Option Value)(base:Heap)(A:Around)(outer:List Env)(s:Shared)(H:Hp):Prop where
 frames:A.frames=some outer
 mod:Mod K mg base
 bs:∀ b o,base.get? b=some o->s.heap.get? b=some o/\H b=none
 bsz:base.objs.size <= s.heap.objs.size
 funs:s.heap.FunFrames base outer
 frf:∀ b ∈ frs outer,H b=none
 hok:HOk P w H s.heap
 bare:AllBare s.gens
def CE (outer:List Env)(P:Program)(w:World)(H:Hp)(s:Shared)(Q:VK)(u:Value)(s':Shared):Prop:=
 ∃ v H',s'.os=s.os/\AllBare s'.gens/\Un (frs outer) [] H H' s.heap s'.heap/\HOk P w H' s'.heap/\a2s v u/\Q v H'
def CR (CX:CXT)(outer:List Env)(P:Program)(w:World)(H:Hp)(s:Shared)(Q:VK)(E:XK)(r:Result)(s':Shared):Prop:=
 match r with
 | .ok (.ret u)=>CE outer P w H s Q u s'
 | .ok _=>False
 | .error e=>CX outer H s E e s'
structure a4p (P:Program)(w:World)(K:PySem.W.Frag)(mg:Str->Option Value)(base:Heap)(CX:CXT)(k:Nat)(f:Addr)(fd:FuncData)(ps:List Str)(sp:Sp):Prop where
 len:∀ vs H Q E,sp vs H Q E->vs.length=ps.length
 run:∀ (A:Around) (outer:List Env) (s:Shared) (H:Hp) (args:Args) (us:List Value) (vs:List V) (Q:VK) (E:XK),a9v k A->Env0 P w K mg base A outer s H->BindsTo s fd args (ps.zip us)->a2t vs us->sp vs H Q E->
  codeAny (model P w) A (.call (.ref f) args) (CR CX outer P w H s Q E) s
theorem a4p.mono {P:Program}{w:World}{K:PySem.W.Frag}{mg:Str->Option Value}{base:Heap}{CX:CXT}{j k:Nat}{f:Addr}{fd:FuncData}{ps:List Str}{sp:Sp}(F:a4p P w K mg base CX j f fd ps sp)(h:j <= k) :
  a4p P w K mg base CX k f fd ps sp:=⟨F.len,fun A outer s H args us vs Q E hr=>F.run A outer s H args us vs Q E (hr.mono h)⟩
theorem Env0.make {w:World}{mg:Str->Option Value}{base:Heap}{outer:List Env}(e:Env0 P w K mg base A outer s H)(C:Addr)(us:List Value)(kw:List (Str × Value)) :
  Env0 P w K mg base (A.under (.builtin "type.__call__" ⟨.ref C :: us,kw⟩)) outer s H:=⟨by first | exact e.frames | (simpa [Around.under,Code.envs,Code.isFrame,pushEnvs] using e.frames),e.mod,e.bs,e.bsz,e.funs,e.frf,e.hok,e.bare⟩
section
variable {X:Cx}{pins:List (Addr × Obj)}{σ:St}{H:Hp}{s s':Shared}
theorem Inv.env0 (I:Inv X pins σ H s):Env0 X.prog X.w X.K X.mg X.base X.A X.stack s H:=
 ⟨I.ok.frames,I.ok.mod,I.bs,Nat.le_trans I.ok.bsz I.sz,I.stack,I.stkFree,I.hok,I.bare⟩
theorem Inv.after {u:Value}(I:Inv X pins σ H s)(h:CE X.stack X.prog X.w H s Q u s'):EP X pins σ Q u s':=by
 obtain ⟨v,H',os,bare,un,hok,r,q⟩:=h;obtain ⟨hh,g,d,t,os'⟩:=s';obtain rfl:os' = s.os:=os;exact ⟨v,H',I.call (h':=hh) (g':=g) (d':=d) (t':=t) (ch:=[]) un hok bare (fun b z=>absurd z (by simp)),r,q⟩
end
def tCall (sp:Sp)(dvs:List V)(E:XK)(t:TA):TE:=fun σ H Q=>t σ H fun vs H1=>sp (vs ++ dvs) H1 Q E
def tMake (C:Addr)(sp:Sp)(dvs:List V)(E:XK)(t:TA):TE:=fun σ H Q=>t σ H fun vs H1=>∀ x dx,H1 x=none->H1 dx=none->dx ≠ x->
 sp (.ref x :: (vs ++ dvs)) (upd (upd H1 dx (.own x)) x (.ins C dx [])) (fun v H2=>v=.non/\Q (.ref x) H2) E
def b4a (K:PySem.W.Frag)(fd:FuncData)(ps:List Str)(ds:List Value):Prop:=
 ∀ (s:Shared) (us:List Value),K.In s.heap->(us ++ ds).length=ps.length->BindsTo s fd ⟨us,[]⟩ (ps.zip (us ++ ds))
theorem b4a.all {fd:FuncData}(h:∀ us:List Value,us.length=ps.length->bindArgs fd ⟨us,[]⟩ = pure (ps.zip us)):b4a K fd ps []:=fun s us _ hl=>by
 rw [List.append_nil] at hl ⊢;exact .of_eq (h us hl)
def a8d (CX:CXT)(X:Cx)(E:XK):Prop:=∀ (pins:List (Addr × Obj)) (σ:St) (H:Hp) (s:Shared) (e:Value) (s':Shared),Inv X pins σ H s->CX X.stack H s E e s'->X.xe e s'
section
variable {X:Cx}{CX:CXT}{k:Nat}{f C:Addr}{fd:FuncData}{ps:List Str}{sp:Sp}{dvs:List V}{ds:List Value}{E:XK}{x m:Str}{p pos apos:Pos}{e o:Expr}{es:List Expr}{ta:TE}{t:TA}
theorem run_fn (F:a4p X.prog X.w X.K X.mg X.base CX k f fd ps sp)(hr:a9v k X.A)(hb:b4a X.K fd ps ds)(hd:a2t dvs ds)(hx:a8d CX X E)
  (I:Inv X pins σ H s) (r:a2t vs us) (h:sp (vs ++ dvs) H Q E):wpAny (model X.prog X.w) X.A (call (.ref f) us) (EP X pins σ Q) X.xe s:=by
 have r2:a2t (vs ++ dvs) (us ++ ds):=r.append hd;have hl:(us ++ ds).length=ps.length:=by rw [<- r2.length]; exact F.len _ _ _ _ h
 refine wpAny_call (codeAny_mono (F.run X.A X.stack s H ⟨us,[]⟩ (us ++ ds) (vs ++ dvs) Q E hr I.env0 (hb s us I.kIn hl) r2 h) fun r s' hq=>?_)
 cases r with
 | error e=>exact hx pins σ H s e s' I hq
 | ok fl=>
  cases fl with
  | ret u=>exact I.after hq
  | next=>exact False.elim hq
  | brk=>exact False.elim hq
  | cont=>exact False.elim hq
theorem pe_call (F:a4p X.prog X.w X.K X.mg X.base CX k f fd ps sp)(hr:a9v k X.A)(hg:Gl X x)(hm:X.mg x=some (.ref f))(hk:PySem.W.keepIn X.K (.ref f) = true)(hb:b4a X.K fd ps ds)(hd:a2t dvs ds)(hx:a8d CX X E)
  (ha:PA X (e :: es) t) (hdb:(x == ("__debug__":Str)) = false:=by decide) (he:starEach (e :: es) X.env=(false,eval e X.env) :: starEach es X.env:=by rfl) (hpl:(backTo pos (starEach es X.env)).any (·.1) = false:=by rfl) :
  PE X (.Call (.Name x p) (e :: es) [] pos) (tCall sp dvs E t):=by
 intro pins s σ H Q I h;refine wpAny_Call_Name_kw (b3c I hg hm ?_ hdb);refine PySem.W.callWith_K (h₀:=X.base) I.ok.mod.kin hk (thn (ha pos pins s σ H _ I h) fun us s1 ⟨vs,H1,I1,r,q⟩=>⟨I1.kIn,?_⟩) he hpl;exact run_fn F hr hb hd hx I1 r q
structure Mk (K:PySem.W.Frag)(C f:Addr):Prop where
 makes:PySem.W.makesIn K C=true
 init:PySem.W.findIn K (.ref C) "__init__" = some (some (.ref f))
 fn:PySem.W.isFn K (.ref f) = true
 kp:PySem.W.keepIn K (.ref C) = true
theorem run_make (M:Mk X.K C f)(F:a4p X.prog X.w X.K X.mg X.base CX k f fd ps sp)(hr:a9v (k + 1) X.A)(hb:b4a X.K fd ps ds)(hd:a2t dvs ds)
  (hx:a8d CX X E) (I:Inv X pins σ H s) (r:a2t vs us)
  (h:∀ x dx,H x=none->H dx=none->dx ≠ x->sp (.ref x :: (vs ++ dvs)) (upd (upd H dx (.own x)) x (.ins C dx [])) (fun v H2=>v=.non/\Q (.ref x) H2) E) :
  wpAny (model X.prog X.w) X.A (call (.ref C) us) (EP X pins σ Q) X.xe s:=by
 have hq:=h (s.heap.objs.size + 1) s.heap.objs.size (I.hok.fresh (Nat.le_succ _)) (I.hok.fresh (Nat.le_refl _)) (Nat.ne_of_lt (Nat.lt_succ_self _));have I2:=Inv.made (C:=C) I;have r2:a2t (V.ref (s.heap.objs.size + 1) :: (vs ++ dvs)) (Value.ref (s.heap.objs.size + 1) :: (us ++ ds)):=.cons rfl (r.append hd)
 have hl:(Value.ref (s.heap.objs.size + 1) :: us ++ ds).length=ps.length:=by
  have e:=r2.length;rw [F.len _ _ _ _ hq] at e;exact e.symm
 refine wpAny_call (make_map (f:=f) I.kIn M.makes M.init (beq_iff_eq.mp M.fn) (codeAny_mono (F.run _ X.stack _ _ ⟨Value.ref (s.heap.objs.size + 1) :: us,[]⟩ (Value.ref (s.heap.objs.size + 1) :: (us ++ ds)) _ _ E (hr.make C us [])
  (I2.env0.make C us []) (hb _ (Value.ref (s.heap.objs.size + 1) :: us) I2.kIn hl) r2 hq) fun r s' hq'=>?_))
 cases r with
 | error e=>exact hx pins σ _ _ e s' I2 hq'
 | ok fl=>
  cases fl with
  | ret u=>
   obtain ⟨v,H',I3,rv,ev,q3⟩:=I2.after hq';subst ev;exact ⟨rv,⟨V.ref (s.heap.objs.size + 1),H',I3,rfl,q3⟩⟩
  | next=>exact False.elim hq'
  | brk=>exact False.elim hq'
  | cont=>exact False.elim hq'
theorem pe_make (M:Mk X.K C f)(F:a4p X.prog X.w X.K X.mg X.base CX k f fd ps sp)(hr:a9v (k + 1) X.A)(hg:Gl X x)(hm:X.mg x=some (.ref C))(hb:b4a X.K fd ps ds)(hd:a2t dvs ds)(hx:a8d CX X E)
  (ha:PA X (e :: es) t) (hdb:(x == ("__debug__":Str)) = false:=by decide) (he:starEach (e :: es) X.env=(false,eval e X.env) :: starEach es X.env:=by rfl) (hpl:(backTo pos (starEach es X.env)).any (·.1) = false:=by rfl) :
  PE X (.Call (.Name x p) (e :: es) [] pos) (tMake C sp dvs E t):=by
 intro pins s σ H Q I h;refine wpAny_Call_Name_kw (b3c I hg hm ?_ hdb);refine PySem.W.callWith_K (h₀:=X.base) I.ok.mod.kin M.kp (thn (ha pos pins s σ H _ I h) fun us s1 ⟨vs,H1,I1,r,q⟩=>⟨I1.kIn,?_⟩) he hpl;exact run_make M F hr hb hd hx I1 r q
end
section
variable {X:Cx}{CX:CXT}{k:Nat}{f C:Addr}{fd:FuncData}{ps ks:List Str}{sp:Sp}{E:XK}{x m:Str}{p pos apos kpos:Pos}{e o:Expr}{es:List Expr}{kws:List Keyword}{te ta:TE}{t tk:TA}{nm:Option Str}
variable {g:List Value->List Value->List Value}{gV:List V->List V->List V}
end
structure a0s (N P:List Str)(sc:Scope):Prop where
 kind:sc.kind=.function
 co:sc.isCoroutine=false
 gen:sc.isGenerator=false
 nd:N.Nodup
 pre:N.take P.length=P
 par:∀ x ∈ P,sc.names.lookup x=some .local\/sc.names.lookup x=some .cell
 nofree:∀ y ∈ sc.names,y.2 ≠ .free
theorem bindL_out {kindOf:Str->Option NameKind}{x:Str}:∀ {binds:List (Str × Value)} {m:Str->Option Value},(∀ v,(x,v) ∉ binds)->bindL kindOf binds m x=m x
 | [],_,_=>rfl
 | (n,v) :: r,m,h=>by
  unfold bindL;rw [bindL_out fun w hw=>h w (List.mem_cons_of_mem _ hw)]
  split
  ·have:x ≠ n:=by rintro rfl; exact h v List.mem_cons_self
   simp [this]
  ·rfl
theorem bindC_out {kindOf:Str->Option NameKind}{x:Str}:∀ {binds:List (Str × Value)} {m:Str->Option Value},(∀ v,(x,v) ∉ binds)->bindC kindOf binds m x=m x
 | [],_,_=>rfl
 | (n,v) :: r,m,h=>by
  unfold bindC;rw [bindC_out fun w hw=>h w (List.mem_cons_of_mem _ hw)]
  split
  ·rfl
  ·have:x ≠ n:=by rintro rfl; exact h v List.mem_cons_self
   simp [this]
theorem bindL_get {kindOf:Str->Option NameKind}{x:Str}{v:Value}:∀ {P:List Str} {vs:List Value} {i:Nat} {m:Str->Option Value},P.Nodup->P[i]? = some x->vs[i]? = some v->kindOf x=some .local->
  bindL kindOf (P.zip vs) m x=some v
 | [],_,_,_,_,h,_,_=>by simp at h
 | _ :: _,[],_,_,_,_,h,_=>by simp at h
 | p :: P,w :: vs,0,m,nd,h1,h2,hk=>by
  simp at h1 h2; subst h1; subst h2;show bindL kindOf ((p,w) :: P.zip vs) m p=_;unfold bindL;rw [bindL_out fun v hv=>(List.nodup_cons.mp nd).1 (List.of_mem_zip hv).1,if_pos hk];simp
 | p :: P,w :: vs,i + 1,m,nd,h1,h2,hk=>by
  show bindL kindOf ((p,w) :: P.zip vs) m x=_;unfold bindL;exact bindL_get (i:=i) (List.nodup_cons.mp nd).2 (by simpa using h1) (by simpa using h2) hk
theorem bindC_get {kindOf:Str->Option NameKind}{x:Str}{v:Value}:∀ {P:List Str} {vs:List Value} {i:Nat} {m:Str->Option Value},P.Nodup->P[i]? = some x->vs[i]? = some v->kindOf x ≠ some .local->
  bindC kindOf (P.zip vs) m x=some v
 | [],_,_,_,_,h,_,_=>by simp at h
 | _ :: _,[],_,_,_,_,h,_=>by simp at h
 | p :: P,w :: vs,0,m,nd,h1,h2,hk=>by
  simp at h1 h2; subst h1; subst h2;show bindC kindOf ((p,w) :: P.zip vs) m p=_;unfold bindC;rw [bindC_out fun v hv=>(List.nodup_cons.mp nd).1 (List.of_mem_zip hv).1,if_neg hk];simp
 | p :: P,w :: vs,i + 1,m,nd,h1,h2,hk=>by
  show bindC kindOf ((p,w) :: P.zip vs) m x=_;unfold bindC;exact bindC_get (i:=i) (List.nodup_cons.mp nd).2 (by simpa using h1) (by simpa using h2) hk
def start (N:List Str)(vs:List V):St:=vs.map some ++ List.replicate (N.length - vs.length) none
def cxOf (CX:CXT)(P:Program)(w:World)(K:PySem.W.Frag)(mg:Str->Option Value)(base:Heap)(N:List Str)(qual:Str)(scope:Scope)(f:Addr)(cd:Value)(A:Around)(outer:List Env)(s:Shared)(H:Hp)(E:XK):Cx where
 prog:=P
 w:=w
 K:=K
 mg:=mg
 base:=base
 A:=A.deeper (envOfC qual scope s.heap.objs.size f cd)
 N:=N
 s₀:=s
 H₀:=H
 env:=envOfC qual scope s.heap.objs.size f cd
 outer:=outer
 stack:=envOfC qual scope s.heap.objs.size f cd :: outer
 ex:=[]
 calm:=true
 fn:=fun _=>true
 pn:=[]
 xe:=fun e s'=>wpAny (model P w) (A.deeper (envOfC qual scope s.heap.objs.size f cd)) (leaving (envOfC qual scope s.heap.objs.size f cd) e) (fun _ s''=>CX outer H s E e s'') (fun e' s''=>CX outer H s E e' s'') s'
theorem cell_has {sc:Scope}{n:Nat}{x:Str}(h:sc.names.lookup x=some .cell):∃ c,(cellsFrom n sc.names []).lookup x=some c:=by
 have q:=PySem.W.cellsFrom_some sc.names n [] (.inl h);exact Option.isSome_iff_exists.mp q
theorem inv_start {CX:CXT}{w:World}{mg:Str->Option Value}{base:Heap}{N:List Str}{cd:Value}{outer:List Env}{s1:Shared}{E:XK}
  (S:a0s N ps scope) (hd:A.handled=none) (e0:Env0 P w K mg base A outer s H) (hl:vs.length=ps.length) (r:a2t vs us)
  (x:InCallC s s.heap.objs.size (bindL (envOfC qual scope s.heap.objs.size f cd).kindOf (ps.zip us) fun _=>none) (cellsFrom (s.heap.objs.size + 1) scope.names []) (bindC (envOfC qual scope s.heap.objs.size f cd).kindOf (ps.zip us) fun _=>none) s1) :
  Inv (cxOf CX P w K mg base N qual scope f cd A outer s H E) [] (start N vs) H s1:=by
 have hpl:ps.length <= N.length:=by have:=congrArg List.length S.pre; rw [List.length_take] at this; omega
 obtain ⟨h1,tk,rfl,hk⟩:=x.done;have noA:∀ b:Addr,b ∉ (cxOf CX P w K mg base N qual scope f cd A outer s H E).ex:=fun b z=>absurd (show b ∈ ([]:List Addr) from z) (by simp)
 refine ⟨⟨e0.mod,S.kind,rfl,rfl,Nat.le_refl _,fun y z c h1 h2=>?_,fun y hy=>?_,fun y c _ h=>?_,fun _=>hd,Around.frames_deeper e0.frames,.inr ⟨rfl,rfl⟩,fun b z=>absurd z (noA b),e0.bs,e0.bsz,fun b _ _=>noA b,fun b z=>absurd z (noA b),e0.funs,e0.frf⟩,
  rfl,e0.bare,Un.kept hk,⟨_,x.toInCall.ns,fun i y v h1 h2 h3=>?_⟩,fun y c h=>⟨_,x.cell y c h⟩,e0.hok.fresh (Nat.le_refl _),fun y c h=>?_,fun p hp=>absurd (show p ∈ ([]:List (Addr × Obj)) from hp) (by simp),e0.hok.kept hk,?_⟩
 ·exact name_of_addr x.apart (PySem.mem_of_lookup h1) (PySem.mem_of_lookup h2)
 ·have hy:scope.names.lookup y=some .cell\/scope.names.lookup y=some .free:=hy
  rcases hy with hy | hy
  ·exact cell_has hy
  ·exact absurd rfl (S.nofree _ (PySem.mem_of_lookup hy))
 ·exact Nat.le_of_lt (x.above y c (PySem.mem_of_lookup h))
 ·have hi:i < vs.length:=by
   unfold start at h2
   by_cases hi:i < vs.length
   ·exact hi
   ·rw [List.getElem?_append_right (by simpa using hi)] at h2;rw [List.getElem?_replicate] at h2
    split at h2 <;> cases h2
  have ha:vs[i]? = some v:=by
   unfold start at h2;rw [List.getElem?_append_left (by simpa using hi),List.getElem?_map] at h2
   cases e:vs[i]? with
   | none=>rw [e] at h2; cases h2
   | some a=>rw [e] at h2; cases h2; rfl
  obtain ⟨u,hu,rv⟩:=r.get ha
  have hp:ps[i]? = some y:=by
   rw [<- S.pre,List.getElem?_take_of_lt (by omega)]; exact h1
  have ndP:ps.Nodup:=by rw [<- S.pre]; exact S.nd.sublist (List.take_sublist _ _)
  refine ⟨u,rv,?_⟩
  rcases S.par y (List.mem_of_getElem? hp) with k | k
  ·exact .inl ⟨k,bindL_get ndP hp hu k⟩
  ·obtain ⟨c,e⟩:=cell_has (n:=s.heap.objs.size + 1) k;refine .inr ⟨.inl k,c,e,?_⟩;have q:=x.cell y c e;rw [bindC_get ndP hp hu (by show scope.names.lookup y ≠ _; rw [k]; decide)] at q;exact q
 ·exact e0.hok.fresh (Nat.le_of_lt (x.above y c (PySem.mem_of_lookup h)))
 ·unfold start;show _=N.length;rw [List.length_append,List.length_map,List.length_replicate];omega
theorem fn_of {CX:CXT}{P:Program}{w:World}{mg:Str->Option Value}{base:Heap}{name:Str}{params:Arguments}{body:List Stmt}{dV kV doc pm cdv ct oc:Value}{an od:Option Addr}
  {osl:Array (Option Value)} {N ps:List Str} {sp:Sp} (lk:K.lookup f=some ⟨oc,od,.func (PySem.W.fnOf name qual params body scope dV kV doc pm an cdv ct),osl⟩) (hcd:PySem.W.codeIn K cdv qual=true) (S:a0s N ps scope)
  (len:∀ vs H Q E,sp vs H Q E->vs.length=ps.length)
  (hbody:∀ (A:Around) (outer:List Env) (s:Shared) (H:Hp) (vs:List V) (Q:VK) (E:XK),a9v k (A.deeper (envOfC qual scope s.heap.objs.size f cdv))->sp vs H Q E->
   ∃ t,PSs (cxOf CX P w K mg base N qual scope f cdv A outer s H E) body t/\t { nx:=fun _ H'=>Q .non H',rt:=Q } (start N vs) H) :
  a4p P w K mg base CX (k + 1) f (PySem.W.fnOf name qual params body scope dV kV doc pm an cdv ct) ps sp:=by
 refine ⟨len,fun A outer s H args us vs Q E hr e0 hb r hsp=>?_⟩;have hl:=len _ _ _ _ hsp;have KX:K.In s.heap:=e0.mod.kin.keeps fun b o e=>(e0.bs b o e).1;have lim:s.heap.NoLimit:=e0.mod.nolimit.keeps fun b o e=>(e0.bs b o e).1
 have hkind:∀ y ∈ ps.zip us,scope.names.lookup y.1=some .local\/(scope.names.lookup y.1=some .cell/\((cellsFrom (s.heap.objs.size + 1) scope.names []).lookup y.1).isSome=true):=fun ⟨n,v⟩ hy=>by
  rcases S.par n (List.of_mem_zip hy).1 with q | q
  ·exact .inl q
  ·exact .inr ⟨q,PySem.W.cellsFrom_some _ _ _ (.inl q)⟩
 refine codeAny_call_function hr.depth (KX _ _ lk) rfl S.co S.gen rfl (PySem.W.codeRec_of KX hcd) (hb _ _ _ _ ?_);refine wpAny_newFunctionEnv_cells S.kind hkind fun env he s1 x=>?_;subst he;refine ⟨lim.keeps x.toInCall.keep,codeAny_func ?_⟩;obtain ⟨t,ht,hq⟩:=hbody A outer s H vs Q E (hr.deeper _) hsp;have I:Inv (cxOf CX P w K mg base N qual scope f cdv A outer s H E) [] (start N vs) H s1:=inv_start S hr.hd e0 hl r x;refine wpAny_mono (ht [] s1 (start N vs) H _ I hq) (fun fl s' hs=>?_) fun e s' hs=>hs
 have fin:∀ {σ':St} {H':Hp} {v:V} {u:Value},Inv (cxOf CX P w K mg base N qual scope f cdv A outer s H E) [] σ' H' s'->a2s v u->Q v H'->CE outer P w H s Q u s':=
  fun {σ' H' v u} J rv q=>⟨v,H',J.os,J.bare,J.base,J.hok,rv,q⟩
 cases fl with
 | ret u=>
  obtain ⟨v,σ',H',J,rv,q⟩:=hs;exact fin J rv q
 | next=>
  obtain ⟨σ',H',J,q⟩:=hs;exact fin (v:=V.non) (u:=Value.none) J rfl q
 | brk=>
  obtain ⟨_,_,_,q⟩:=hs;exact False.elim q
 | cont=>
  obtain ⟨_,_,_,q⟩:=hs;exact False.elim q
end L2
namespace L2
open PySem PySem.Spec PyProof.Rows
section
variable {X:Cx}{x:Str}{p pos:Pos}{e:Expr}{es:List Expr}{t:TA}{id T:String}{r:List V->Hp->VK->Prop}
def tCB (r:List V->Hp->VK->Prop)(t:TA):TE:=fun σ H Q=>t σ H fun vs H1=>r vs H1 Q
theorem a1w (hc:b1s X (.builtin id) r)(hg:Gl X x)(hm:X.mg x=none)(hv:bootBuiltins x=some (.builtin id))(ha:PA X (e :: es) t)(hn:x ≠ "__name__":=by decide)(hdb:(x == ("__debug__":Str)) = false:=by decide)
  (he:starEach (e :: es) X.env=(false,eval e X.env) :: starEach es X.env:=by rfl) (hpl:(backTo pos (starEach es X.env)).any (·.1) = false:=by rfl):PE X (.Call (.Name x p) (e :: es) [] pos) (tCB r t):=by
 intro pins s σ H Q I h;refine wpAny_Call_Name_kw (ld_blt I hg hm hv ?_ hn hdb);exact PyProof.Rows.callWith_builtin1 (thn (ha pos pins s σ H _ I h) fun us s1 ⟨vs,H1,I1,r1,q1⟩=>hc pins s1 σ H1 vs us Q I1 r1 q1) he hpl
end
end L2
namespace HT
open PySem PyProof.Rows
section
open PySem.SeqAt
open PySem.AutoSeq1 (wpAny_loadPart')
open PySem.MeetsSeq PySem.MeetsSeq2 PySem.MeetsSeq3
end
section
variable {prog:Program}{w:World}{A:Around}{E:Value->Shared->Prop}{s:Shared}
def sIx (n d:Nat):Option Int->Nat
 | none=>d
 | some v=>if v < 0 then (v + (n:Int)).toNat else min v.toNat n
theorem sIx_none (n d:Nat):sIx n d none=d:=rfl
theorem sIx_nat (n d k:Nat):sIx n d (some (k:Int)) = min k n:=by
 show (if (k:Int) < 0 then ((k:Int) + (n:Int)).toNat else min (k:Int).toNat n) = min k n;rw [if_neg (by omega),Int.toNat_natCast]
end
end HT
namespace L2
open PySem PySem.Spec PyProof.Rows
abbrev TO:=St->Hp->(Option Int->Hp->Prop)->Prop
def PO (X:Cx)(e:Option Expr)(t:TO):Prop:=
 ∀ (pins:List (Addr × Obj)) (s:Shared) (σ:St) (H:Hp) (Q:Option Int->Hp->Prop),Inv X pins σ H s->t σ H Q->
  wpAny (model X.prog X.w) X.A (evalPart e X.env) (fun u s'=>∃ o H',Inv X pins σ H' s'/\IsPart u o/\Q o H') X.xe s
def tNoPart:TO:=fun _ H Q=>Q none H
def tPart (t:TE):TO:=fun σ H Q=>t σ H fun x H1=>∃ i,x=.int i/\Q (some i) H1
section
variable {X:Cx}{e:Expr}{te:TE}{lo hi:Option Expr}{tl th:TO}{pos p2:Pos}
theorem b7t:PO X none tNoPart:=by
 intro pins s σ H Q I h;rw [evalPart_none];exact wpAny_pure ⟨none,H,I,.none,h⟩
theorem b1r (h:PE X e te):PO X (some e) (tPart te):=by
 intro pins s σ H Q I hw;rw [evalPart_some];refine thn (h pins s σ H _ I hw) fun u s1 ⟨x,H1,I1,r1,q1⟩=>?_;obtain ⟨i,rfl,q⟩:=q1;obtain ⟨t,rfl⟩:=r1;exact ⟨some i,H1,I1,.int i t,q⟩
def SlR (X:Cx)(r:V->Option Int->Option Int->Hp->VK->Prop):Prop:=
 ∀ (pins:List (Addr × Obj)) (s:Shared) (σ:St) (H:Hp) (x:V) (v vl vu:Value) (lo hi:Option Int) (sl:Addr) (Q:VK),Inv X pins σ H s->a2s x v->s.heap.IsSliceOf sl vl vu .none->IsPart vl lo->IsPart vu hi->r x lo hi H Q->
  ∃ T id,typeLookup (.type T) "__getitem__" = pure (some (.builtin id))/\s.TypeIs v T/\wpAny (model X.prog X.w) X.A (getItem v (.ref sl)) (EP X pins σ Q) X.xe s
def tSl (r:V->Option Int->Option Int->Hp->VK->Prop)(te:TE)(tl th:TO):TE:=fun σ H Q=>te σ H fun x H1=>tl σ H1 fun l H2=>th σ H2 fun u H3=>r x l u H3 Q
theorem b0c {r:V->Option Int->Option Int->Hp->VK->Prop}(hr:SlR X r)(he:PE X e te)(hl:PO X lo tl)(hu:PO X hi th):PE X (.Subscript e (.Slice lo hi none p2) pos) (tSl r te tl th):=by
 intro pins s σ H Q I h;refine Subscript_ (thn (he pins s σ H _ I h) fun v s1 ⟨x,H1,I1,r1,q1⟩=>?_);refine wpAny_Slice (thn (hl pins s1 σ H1 _ I1 q1) fun vl s2 ⟨l,H2,I2,pl,q2⟩=>thn (hu pins s2 σ H2 _ I2 q2) fun vu s3 ⟨u,H3,I3,pu,q3⟩=>?_);rw [evalPart_none];refine wpAny_pure ?_;have I4:Inv X pins σ H3 { s3 with heap:=s3.heap.push { cls:=.type "slice",data:=.fields #[vl,vu,.none] } }:=I3.kept (t':=s3.toks) fun b ob q=>Heap.get?_push_of_some _ q;obtain ⟨T,id,hT,ht,hg⟩:=hr pins { s3 with heap:=s3.heap.push { cls:=.type "slice",data:=.fields #[vl,vu,.none] } } σ H3 x v vl vu l u s3.heap.objs.size Q I4 r1 (Heap.IsSliceOf.new ..) pl pu q3;show wpAny (model X.prog X.w) X.A (subscriptTail e (.Slice lo hi none p2) v (.ref s3.heap.objs.size)) (EP X pins σ Q) X.xe { s3 with heap:=s3.heap.push { cls:=.type "slice",data:=.fields #[vl,vu,.none] } };exact tail_any (ops:=[.ref s3.heap.objs.size,v]) ht hT hg (by with_unfolding_all rfl)
def cutV (xs:List V)(lo hi:Option Int):List V:=(xs.drop (HT.sIx xs.length 0 lo)).take (HT.sIx xs.length xs.length hi - HT.sIx xs.length 0 lo)
theorem cutV_length (xs:List V)(lo hi:Option Int):(cutV xs lo hi).length <= xs.length:=by
 unfold cutV;rw [List.length_take,List.length_drop];omega
end
end L2
namespace L2
open PySem PySem.Spec PyProof.Rows
variable {i:Int}{j:Nat}{s:Shared}{x y:V}{u v:Value}
def ixN (n:Nat)(i:Int):Option Nat:=if 0 <= i then (if i < n then some i.toNat else none) else if -(n:Int) <= i then some (i + n).toNat else none
def atI {α:Type}(xs:List α)(i:Int):Option α:=(ixN xs.length i).bind fun j=>xs[j]?
theorem ixN_seq {n:Nat}(h:ixN n i=some j):seqIndex? i n=some j/\j < n/\-(n:Int) <= i/\i < n:=by
 unfold ixN at h
 by_cases h0:0 <= i
 ·rw [if_pos h0] at h
  by_cases h1:i < n
  ·rw [if_pos h1] at h;have e:i.toNat=j:=Option.some.inj h;exact ⟨by rw [seqIndex_of h0 h1,e],by omega,by omega,h1⟩
  ·rw [if_neg h1] at h; cases h
 ·rw [if_neg h0] at h
  by_cases h1:-(n:Int) <= i
  ·rw [if_pos h1] at h;have e:(i + n).toNat=j:=Option.some.inj h;exact ⟨by rw [seqIndex_neg (by omega) h1,e],by omega,h1,by omega⟩
  ·rw [if_neg h1] at h; cases h
theorem atI_get {α:Type}{xs:List α}{v:α}(h:atI xs i=some v):∃ j,seqIndex? i xs.length=some j/\xs[j]? = some v/\j < xs.length/\-(xs.length:Int) <= i/\i < xs.length:=by
 unfold atI at h
 cases e:ixN xs.length i with
 | none=>rw [e] at h; cases h
 | some j=>
  rw [e] at h;obtain ⟨h1,h2,h3,h4⟩:=ixN_seq e;exact ⟨j,h1,h,h2,h3,h4⟩
theorem b3q {α:Type}{xs:List α}{v:α}(h:xs[j]? = some v):atI xs (j:Int) = some v:=by
 have hj:j < xs.length:=(List.getElem?_eq_some_iff.mp h).1
 have e:ixN xs.length (j:Int) = some j:=by
  unfold ixN;rw [if_pos (by omega),if_pos (by omega)]; simp
 unfold atI; rw [e]; exact h
def PlainIx (b:Expr):Prop:=∀ o i,subscripted b false o i=operate [o,i] (getItem o i)
def IxR (X:Cx)(r:R2):Prop:=
 ∀ (value slice:Expr) (pins:List (Addr × Obj)) (s:Shared) (σ:St) (H:Hp) (x y:V) (v u:Value) (Q:VK),Inv X pins σ H s->a2s x v->a2s y u->r x y H Q->
  subscripted slice false v u=operate [v,u] (getItem v u)->wpAny (model X.prog X.w) X.A (subscriptTail value slice v u) (EP X pins σ Q) X.xe s
def MtR (X:Cx)(id:String)(r:V->List V->Hp->VK->Prop):Prop:=
 ∀ (pins:List (Addr × Obj)) (s:Shared) (σ:St) (H:Hp) (x:V) (xs:List V) (v:Value) (us:List Value) (Q:VK),Inv X pins σ H s->a2s x v->a2t xs us->r x xs H Q->
  wpAny (model X.prog X.w) X.A (call (.builtin id) (v :: us)) (EP X pins σ Q) X.xe s
section
variable {X:Cx}{a b:Expr}{ta tb:TE}{pos:Pos}
theorem a0w {r:R2}(hr:IxR X r)(ha:PE X a ta)(hb:PE X b tb)(hs:PlainIx b):PE X (.Subscript a b pos) (tOp r ta tb):=by
 intro pins s σ H Q I h;exact Subscript_ (binT ha hb I h fun v u s2 x y H2 I2 rx ry q=>hr a b pins s2 σ H2 x y v u Q I2 rx ry q (hs _ _))
def rIxL (K:PySem.W.Frag):R2:=fun x y H Q=>∃ p xs i v,x=.ref p/\y=.int i/\SqL K H p xs/\atI xs i=some v/\Q v H
def rIxT (K:PySem.W.Frag):R2:=fun x y H Q=>∃ p xs i v,x=.ref p/\y=.int i/\SqT K H p xs/\atI xs i=some v/\Q v H
theorem a6t:IxR X (rIxL X.K):=by
 intro value slice pins s σ H x y v u Q I rx ry h hs;obtain ⟨p,xs,i,z,rfl,rfl,hq,he,q⟩:=h;cases rx;obtain ⟨t,rfl⟩:=ry;obtain ⟨its,r,pl,hz⟩:=I.list hq;obtain ⟨j,h1,h2,h3,h4,h5⟩:=atI_get he;obtain ⟨w,ew,rw'⟩:=r.get h2;have hl:=r.length;have hn:=line63;have fin:EP X pins σ Q w s:=⟨z,H,I,rw',q⟩
 by_cases h0:0 <= i
 ·have hj:i.toNat=j:=by
   rw [seqIndex_of h0 h5] at h1;exact Option.some.inj h1
  exact item_listR pl.isList h0 (by omega) (by rw [hj]; simpa using ew) fin hs
 ·have hj:(i + (its.toArray.size:Int)).toNat=j:=by
   rw [seqIndex_neg (by omega) h4] at h1;rw [List.size_toArray,<- hl];exact Option.some.inj h1
  exact subscriptTail_builtinR (x:=w) pl.isList.typeIs slot_list_getitem.lookup
   (wpAny_getItem_list_neg (Q:=fun r s'=>r=w/\EP X pins σ Q r s') pl.isList (by omega) (by rw [List.size_toArray] <;> omega) (by omega) (by rw [hj]; simpa using ew) ⟨rfl,fin⟩) hs
theorem a0r:IxR X (rIxT X.K):=by
 intro value slice pins s σ H x y v u Q I rx ry h hs;obtain ⟨p,xs,i,z,rfl,rfl,hq,he,q⟩:=h;cases rx;obtain ⟨t,rfl⟩:=ry;obtain ⟨its,r,pl,hz⟩:=I.tuple hq;obtain ⟨j,h1,h2,h3,h4,h5⟩:=atI_get he;obtain ⟨w,ew,rw'⟩:=r.get h2;have hl:=r.length;have hn:=line63;have fin:EP X pins σ Q w s:=⟨z,H,I,rw',q⟩
 exact subscriptTail_builtinR (x:=w) pl.typeIs slot_tuple_getitem.lookup
  (getItem_tuple (j:=j) (Q:=fun r s'=>r=w/\EP X pins σ Q r s') pl (by omega) (by omega) (by rw [List.size_toArray,<- hl]; exact h1) (by simpa using ew) ⟨rfl,fin⟩) hs
theorem slice_bounds (lo hi:Option Int)(n:Nat):(sliceBounds lo hi none n).1=((HT.sIx n 0 lo:Nat):Int)/\(sliceBounds lo hi none n).2.1=((HT.sIx n n hi:Nat):Int)/\(sliceBounds lo hi none n).2.2=1:=by
 refine ⟨?_,?_,rfl⟩
 ·cases lo with
  | none=>simp [sliceBounds,HT.sIx]
  | some i=>
   simp only [sliceBounds,HT.sIx,Option.getD_none,show (1:Int) > 0 by decide,if_true]
   by_cases h:i < 0
   ·simp only [h,if_true] <;> omega
   ·simp only [h,if_false] <;> omega
 ·cases hi with
  | none=>simp [sliceBounds,HT.sIx]
  | some i=>
   simp only [sliceBounds,HT.sIx,Option.getD_none,show (1:Int) > 0 by decide,if_true]
   by_cases h:i < 0
   ·simp only [h,if_true] <;> omega
   ·simp only [h,if_false] <;> omega
theorem b6q (its:List Value)(lo hi:Option Int):slicePick its.toArray lo hi none=((its.drop (HT.sIx its.length 0 lo)).take (HT.sIx its.length its.length hi - HT.sIx its.length 0 lo)).toArray:=by
 obtain ⟨h1,h2,h3⟩:=slice_bounds lo hi its.toArray.size;unfold slicePick;rw [h1,h2,h3];simp only [sliceRange_one,pick_run,List.size_toArray] <;> rfl
def rSlL (K:PySem.W.Frag):V->Option Int->Option Int->Hp->VK->Prop:=fun x lo hi H Q=>∃ a xs,x=.ref a/\SqL K H a xs/\∀ p,H p=none->Q (.ref p) (upd H p (.lst (cutV xs lo hi)))
theorem b3e:SlR X (rSlL X.K):=by
 intro pins s σ H x v vl vu lo hi sl Q I rx hs pl pu h;obtain ⟨a,xs,rfl,hx,q⟩:=h;cases rx;obtain ⟨its,r,ht,hz⟩:=I.list hx;have hlen:=r.length;refine ⟨"list",_,slot_list_getitem.lookup,ht.isList.typeIs,?_⟩;refine wpAny_getItem_list_slice ht.isList hs pl pu .none (by simp) ?_ (by rw [List.size_toArray] <;> omega)
 rw [b6q,<- hlen];refine ⟨.ref s.heap.objs.size,_,I.laid (t':=s.toks) (o:=.lst (cutV xs lo hi)) (fun b ob q=>Heap.get?_push_of_some _ q) (Nat.le_refl _) ?_,rfl,q _ (I.hok.fresh (Nat.le_refl _))⟩;exact ⟨Nat.le_trans (cutV_length xs lo hi) hz,_,0,(r.drop (HT.sIx xs.length 0 lo)).take (HT.sIx xs.length xs.length hi - HT.sIx xs.length 0 lo),Heap.get?_push_size _ rfl⟩
def b1e:V->Bool
 | .non=>true
 | .bl _=>true
 | .int _=>true
 | .str _=>true
 | _=>false
def eqV:V->V->Bool
 | .non,.non=>true
 | .bl a,.bl b=>a == b
 | .bl a,.int b=>(if a then 1 else 0) == b
 | .int a,.bl b=>a == (if b then 1 else 0)
 | .int a,.int b=>a == b
 | .str a,.str b=>a == b
 | _,_=>false
theorem eqAt_V {A:Around}(ry:a2s y u)(rx:a2s x v)(fy:b1e y=true)(fx:b1e x=true):SeqAt.EqAt A s u v (eqV y x):=by
 cases y with
 | non=>
  cases ry
  cases x with
  | non=>cases rx; exact SeqAt.EqAt.same _
  | bl b=>cases rx; exact SeqAt.EqAt.none_bool b
  | int b=>obtain ⟨t,rfl⟩:=rx; exact SeqAt.EqAt.none_int b t
  | str b=>obtain ⟨t,rfl⟩:=rx; exact SeqAt.EqAt.none_str b t
  | _=>exact absurd (show false=true from fx) Bool.false_ne_true
 | bl a=>
  cases ry
  cases x with
  | non=>cases rx; exact SeqAt.EqAt.bool_none a
  | bl b=>cases rx; exact SeqAt.EqAt.bool_bool a b
  | int b=>obtain ⟨t,rfl⟩:=rx; exact SeqAt.EqAt.bool_int a b t
  | str b=>obtain ⟨t,rfl⟩:=rx; exact SeqAt.EqAt.bool_str a b t
  | _=>exact absurd (show false=true from fx) Bool.false_ne_true
 | int a=>
  obtain ⟨t',rfl⟩:=ry
  cases x with
  | non=>cases rx; exact SeqAt.EqAt.int_none a t'
  | bl b=>cases rx; exact SeqAt.EqAt.int_bool a t' b
  | int b=>obtain ⟨t,rfl⟩:=rx; exact SeqAt.EqAt.int_int a t' b t
  | str b=>obtain ⟨t,rfl⟩:=rx; exact SeqAt.EqAt.int_str a t' b t
  | _=>exact absurd (show false=true from fx) Bool.false_ne_true
 | str a=>
  obtain ⟨t',rfl⟩:=ry
  cases x with
  | non=>cases rx; exact SeqAt.EqAt.str_none a t'
  | bl b=>cases rx; exact SeqAt.EqAt.str_bool a t' b
  | int b=>obtain ⟨t,rfl⟩:=rx; exact SeqAt.EqAt.str_int a t' b t
  | str b=>obtain ⟨t,rfl⟩:=rx; exact SeqAt.EqAt.str_str a t' b t
  | _=>exact absurd (show false=true from fx) Bool.false_ne_true
 | _=>exact absurd (show false=true from fy) Bool.false_ne_true
def eqU (x:V)(u:Value):Bool:=match u with
 | .none=>eqV .non x
 | .bool b=>eqV (.bl b) x
 | .int i _=>eqV (.int i) x
 | .str z _=>eqV (.str z) x
 | _=>false
theorem eqU_of (r:a2s y u)(f:b1e y=true):eqU x u=eqV y x:=by
 cases y with
 | non=>cases r; rfl
 | bl b=>cases r; rfl
 | int i=>obtain ⟨t,rfl⟩:=r; rfl
 | str z=>obtain ⟨t,rfl⟩:=r; rfl
 | _=>exact absurd (show false=true from f) Bool.false_ne_true
theorem any_eqU {x:V}:∀ {xs:List V} {us:List Value},a2t xs us->xs.all b1e=true->us.any (eqU x) = xs.any fun y=>eqV y x
 | _,_,.nil,_=>rfl
 | y :: xs,u :: us,.cons r t,f=>by
  rw [List.all_cons,Bool.and_eq_true] at f;rw [List.any_cons,List.any_cons,eqU_of r f.1,any_eqU t f.2]
theorem b6n {A:Around}{s:Shared}{x:V}{v:Value}(rx:a2s x v)(fx:b1e x=true):∀ {xs:List V} {us:List Value},a2t xs us->xs.all b1e=true->∀ u ∈ us,SeqAt.EqAt A s u v (eqU x u)
 | _,_,.nil,_=>fun u hu=>by cases hu
 | y :: xs,u :: us,.cons r t,f=>fun u' hu=>by
  rw [List.all_cons,Bool.and_eq_true] at f
  rcases List.mem_cons.mp hu with rfl | hu
  ·rw [eqU_of r f.1]; exact eqAt_V r rx f.1 fx
  ·exact b6n rx fx t f.2 u' hu
def inV (x:V)(xs:List V):Bool:=xs.any fun y=>eqV y x
def rIn (K:PySem.W.Frag)(neg:Bool):R2:=fun x y H Q=>∃ p xs,y=.ref p/\(SqL K H p xs\/SqT K H p xs)/\b1e x=true/\xs.all b1e=true/\Q (.bl (if neg then !inV x xs else inV x xs)) H
theorem op_in_seq:OpR X (compareOp .In) (rIn X.K false):=by
 intro pins s σ H x y v u Q I rx ry h;obtain ⟨p,xs,rfl,hq,fx,fs,q⟩:=h;cases ry
 rcases hq with hq | hq
 ·obtain ⟨its,r,pl,hz⟩:=I.list hq;refine SeqAt.in_listAt (eqU x) pl.isList (fun w hw=>b6n rx fx r fs w (by simpa using hw)) ⟨.bl _,H,I,rfl,?_⟩;rw [show its.toArray.any (eqU x) = its.any (eqU x) by simp,any_eqU r fs];exact q
 ·obtain ⟨its,r,pl,hz⟩:=I.tuple hq;refine SeqAt.in_tupleAt (eqU x) pl (fun w hw=>b6n rx fx r fs w (by simpa using hw)) ⟨.bl _,H,I,rfl,?_⟩;rw [show its.toArray.any (eqU x) = its.any (eqU x) by simp,any_eqU r fs];exact q
theorem call_len_seq:b1s X (.builtin "len") (fun xs H Q=>∃ p ys,xs=[.ref p]/\(SqL X.K H p ys\/SqT X.K H p ys)/\Q (.int ys.length) H):=by
 intro pins s σ H xs us Q I r h;obtain ⟨p,ys,rfl,hq,q⟩:=h;obtain ⟨u,rfl,rx⟩:=vals1 r;cases rx;have hn:=line63
 rcases hq with hq | hq
 ·obtain ⟨its,r',pl,hz⟩:=I.list hq;have hlen:=r'.length;exact Calls.call_len_list pl.isList (by simp only [List.size_toArray] <;> omega) ⟨.int ys.length,H,I.tok _,⟨s.toks + 1,by rw [List.size_toArray,hlen]⟩,q⟩
 ·obtain ⟨its,r',pl,hz⟩:=I.tuple hq;have hlen:=r'.length;exact len_tuple pl (by simp only [List.size_toArray] <;> omega) ⟨.int ys.length,H,I.tok _,⟨s.toks + 1,by rw [List.size_toArray,hlen]⟩,q⟩
theorem call_len_str:b1s X (.builtin "len") (fun xs H Q=>∃ z,xs=[.str z]/\z.length <= sizeLine/\Q (.int z.length) H):=by
 intro pins s σ H xs us Q I r h;obtain ⟨z,rfl,hz,q⟩:=h;obtain ⟨u,rfl,t,rfl⟩:=vals1 r;have hn:=line63;exact len_str (by omega) ⟨.int z.length,H,I.tok _,⟨_,rfl⟩,q⟩
theorem b1s.or {f:Value}{r r':List V->Hp->VK->Prop}(h:b1s X f r)(h':b1s X f r'):b1s X f (fun xs H Q=>r xs H Q\/r' xs H Q):=by
 intro pins s σ H xs us Q I rs q
 rcases q with q | q
 ·exact h pins s σ H xs us Q I rs q
 ·exact h' pins s σ H xs us Q I rs q
def tyV (K:PySem.W.Frag)(T:String)(x:V)(H:Hp):Prop:=match x with
 | .str _=>T= "str"
 | .int _=>T= "int"
 | .ref p=>(T= "list"/\∃ xs,SqL K H p xs)\/(T= "tuple"/\∃ o,K.lookup p=some o/\o.cls=.type "tuple"/\o.dict=none)\/
   (T= "dict"/\((∃ kvs,H p=some (.dK kvs))\/∃ kvs,H p=some (.dT kvs)))\/(T= "set"/\∃ S n,H p=some (.set S n))
 | _=>False
theorem tyV_is {pins:List (Addr × Obj)}{σ:St}{H:Hp}{T:String}(I:Inv X pins σ H s)(r:a2s x v)(ty:tyV X.K T x H) :
  s.TypeIs v T/\∀ a,v=.ref a->∃ ob,s.heap.get? a=some ob/\ob.dict=none:=by
 cases x with
 | str z=>
  obtain ⟨t,rfl⟩:=r;cases (show T= "str" from ty);exact ⟨typeIs_str s z t,fun _ e=>nomatch e⟩
 | int i=>
  obtain ⟨t,rfl⟩:=r;cases (show T= "int" from ty);exact ⟨typeIs_int s i t,fun _ e=>nomatch e⟩
 | ref p=>
  cases r
  rcases ty with ⟨rfl,xs,hq⟩ | ⟨rfl,o,hk,hc,hd⟩ | ⟨rfl,hk⟩ | ⟨rfl,S,n,hk⟩
  ·obtain ⟨its,_,pl,_⟩:=I.list hq;refine ⟨pl.isList.typeIs,fun a e=>?_⟩;cases e;obtain ⟨o,n,e,c,hd,_⟩:=pl;exact ⟨o,e,hd⟩
  ·refine ⟨⟨o,I.kIn p o hk,hc⟩,fun a e=>?_⟩;cases e;exact ⟨o,I.kIn _ o hk,hd⟩
  ·have z:∃ o,s.heap.get? p=some o/\o.ExactDict:=by
    rcases hk with ⟨kvs,hk⟩ | ⟨kvs,hk⟩
    ·obtain ⟨_,_,_,_,o,_,_,e,ex,_⟩:=I.hok p _ hk;exact ⟨o,e,ex⟩
    ·obtain ⟨_,_,_,_,o,_,_,e,ex,_⟩:=I.hok p _ hk;exact ⟨o,e,ex⟩
   obtain ⟨o,e,ex⟩:=z;refine ⟨⟨o,e,ex.1⟩,fun a e2=>?_⟩;cases e2;exact ⟨o,e,ex.2.1⟩
  ·obtain ⟨o,_,_,_,e,ex,_⟩:=I.hok p _ hk;refine ⟨⟨o,e,ex.1⟩,fun a e2=>?_⟩;cases e2;exact ⟨o,e,ex.2.1⟩
 | _=>exact False.elim ty
def tBM (K:PySem.W.Frag)(T:String)(r:V->List V->Hp->VK->Prop)(to:TE)(t:TA):TE:=fun σ H Q=>to σ H fun x H1=>tyV K T x H1/\t σ H1 fun xs H2=>r x xs H2 Q
variable {o e:Expr}{es:List Expr}{to:TE}{t:TA}{name:Str}{apos cpos:Pos}{T id:String}{r:V->List V->Hp->VK->Prop}
theorem pe_bm (pa:PlainAttrs T)(slot:Slot T name id)(hty:typeOf (.builtin id) = pure (.type "method_descriptor"))(hm:MtR X id r)(ho:PE X o to)(ha:PA X (e :: es) t)
  (hbase:attributeBase o name X.env (eval o X.env) = eval o X.env:=by rfl)
  (hfew:((backTo cpos (starEach (e :: es) X.env)).all (fun x=>!x.1) && (backToKw cpos (keywordEach [] X.env)).all (fun x=>x.1.isSome)
   && decide ((e :: es).length + ([]:List Keyword).length + (if ([]:List Keyword).isEmpty then 0 else 1) < 30)) = true:=by rfl)
  (hline:(apos.endLine == cpos.line) = true:=by rfl) (hs:starEach (e :: es) X.env=(false,eval e X.env) :: starEach es X.env:=by rfl) (hplain:(backTo cpos (starEach es X.env)).any (·.1) = false:=by rfl) :
  PE X (.Call (.Attribute o name apos) (e :: es) [] cpos) (tBM X.K T r to t):=by
 intro pins s σ H Q I h;refine wpAny_Call_method_late hbase hfew hline rfl (thn (ho pins s σ H _ I h) fun v s1 ⟨x,H1,I1,r1,ty,q1⟩=>?_);obtain ⟨h1,h2⟩:=tyV_is I1 r1 ty;refine ⟨T,id,pa,slot,hty,h1,h2,?_⟩;have hA:=ha cpos pins s1 σ H1 _ I1 q1;rw [hs] at hA ⊢;refine Calls.callWith_builtin (by show (false || (backTo cpos (starEach es X.env)).any (·.1)) = false; rw [hplain] <;> rfl) (Calls.evalArgs_plain ?_)
 exact thn hA fun us s2 ⟨vs,H2,I2,r2,q2⟩=>hm pins s2 σ H2 x vs v us Q I2 r1 r2 q2
end
end L2
namespace L2
open PySem PySem.Spec PyProof.Rows
variable {its:List Value}{a c t':Nat}
def MtM (X:Cx)(id:String)(r:V->List V->Hp->VK->Prop):Prop:=
 ∀ (pins:List (Addr × Obj)) (s:Shared) (σ:St) (H:Hp) (x:V) (xs:List V) (v:Value) (us:List Value) (Q:VK),Inv X pins σ H s->a2s x v->a2t xs us->r x xs H Q->
  wpAny (model X.prog X.w) X.A (call (.builtin id) (v :: us)) (EP X pins σ Q) X.xe s
theorem a2t.one:∀ {x:V} {us:List Value},a2t [x] us->∃ u,us=[u]/\a2s x u
 | _,_,.cons r .nil=>⟨_,rfl,r⟩
theorem a2t.two:∀ {x y:V} {us:List Value},a2t [x,y] us->∃ u v,us=[u,v]/\a2s x u/\a2s y v
 | _,_,_,.cons r (.cons q .nil)=>⟨_,_,rfl,r,q⟩
section
variable {X:Cx}{pins:List (Addr × Obj)}{σ:St}{H:Hp}{s:Shared}{l b:Addr}{xs ys zs:List V}
theorem Inv.lset {its':List Value}{n:Nat}{f:Array Value->Array Value}(I:Inv X pins σ H s)(hH:H l=some (.lst xs))
  (e:s.heap.get? l=some { cls:=.type "list",data:=.seq its.toArray n }) (hf:f its.toArray=its'.toArray) (hv:a2t ys its') (hz:ys.length <= sizeLine) :
  Inv X pins σ (upd H l (.lst ys)) { s with heap:=s.heap.update l (Obj.mapSeq f),toks:=t' }:=by
 have q:=PySem.IsL.update e f;rw [hf] at q;refine I.write (x:=l) (e:=l) (by rw [hH]; exact trivial) (.inl rfl) (fun b' u hb hu=>(Heap.get?_update_other s.heap (Obj.mapSeq f) (Ne.symm hb)).trans hu) ⟨_,q⟩ ?_;exact ⟨hz,its',_,hv,q⟩
theorem Inv.lnew (I:Inv X pins σ H s)(hv:a2t ys its)(hz:ys.length <= sizeLine) :
  Inv X pins σ (upd H s.heap.objs.size (.lst ys)) { s with heap:=s.heap.push { cls:=.type "list",data:=.seq its.toArray },toks:=t' }:=
 I.laid (fun _ _ q=>Heap.get?_push_of_some _ q) (Nat.le_refl _) ⟨hz,its,0,hv,Heap.get?_push_size _ rfl⟩
theorem Inv.fresh (I:Inv X pins σ H s):H s.heap.objs.size=none:=I.hok.fresh (Nat.le_refl _)
theorem Inv.lstM (I:Inv X pins σ H s)(hH:H l=some (.lst xs)):xs.length <= sizeLine/\∃ (its:List Value) (n:Nat),a2t xs its/\xs.length=its.length/\s.heap.get? l=some { cls:=.type "list",data:=.seq its.toArray n }:=by
 obtain ⟨z,its,n,r,e⟩:=I.hok l _ hH;exact ⟨z,its,n,r,r.length,e⟩
theorem notLongL {n:Nat}(h:n <= sizeLine):Builtin.List.listTooLong n=false:=by
 unfold Builtin.List.listTooLong;exact decide_eq_false (by omega)
end
section
variable {X:Cx}
def rAppend:V->List V->Hp->VK->Prop:=fun x vs H Q=>∃ l xs y,x=.ref l/\vs=[y]/\H l=some (.lst xs)/\xs.length < sizeLine/\Q .non (upd H l (.lst (xs ++ [y])))
theorem a6k:MtM X "list.append" rAppend:=by
 intro pins s σ H x vs v us Q I rx rv h;obtain ⟨l,xs,y,rfl,rfl,hH,hz,q⟩:=h;cases rx;obtain ⟨u,rfl,ru⟩:=rv.one;obtain ⟨z,its,n,r,hl,e⟩:=I.lstM hH;refine call_meets F.slot_list_append ⟨_,e,rfl⟩ F.entry_list_append (F.args_list_append_2 _ _) (PySem.list_append l its.toArray n u (by rw [List.size_toArray]; omega)) ⟨e,?_⟩;refine ⟨.non,_,I.lset (its':=its ++ [u]) hH e (by simp) (r.append (.cons ru .nil)) ?_,rfl,q⟩;rw [List.length_append,List.length_singleton];omega
def rCat:R2:=fun x y H Q=>∃ l b xs zs,x=.ref l/\y=.ref b/\H l=some (.lst xs)/\H b=some (.lst zs)/\xs.length + zs.length <= sizeLine/\∀ p,H p=none->Q (.ref p) (upd H p (.lst (xs ++ zs)))
theorem op_cat:OpR X (binaryOp .Add) rCat:=by
 intro pins s σ H x y v u Q I rx ry h;obtain ⟨l,b,xs,zs,rfl,rfl,hH,hB,hz,q⟩:=h;cases rx;cases ry;obtain ⟨z,its,n,r,hl,e⟩:=I.lstM hH;obtain ⟨z2,its2,n2,r2,hl2,e2⟩:=I.lstM hB;refine PySem.P.add_list e e2 ?_ (by rw [List.size_toArray,List.size_toArray]; omega);have ea:its.toArray ++ its2.toArray=(its ++ its2).toArray:=by simp
 rw [ea];exact ⟨.ref _,_,I.lnew (t':=s.toks) (r.append r2) (by rw [List.length_append]; omega),rfl,q _ I.fresh⟩
end
section
variable {prog:Program}{w:World}{A:Around}{E:Value->Shared->Prop}{s:Shared}
theorem bounds_run {n:Nat}(hac:a <= c)(hc:c <= n):sliceBounds (some (a:Int)) (some (c:Int)) none n=((a:Int),(c:Int),1):=by
 simp only [sliceBounds,Option.getD_none];have h1:¬ ((a:Int) < 0):=by omega
 have h2:¬ ((c:Int) < 0):=by omega
 simp only [h1,h2,if_false,show (1:Int) > 0 by decide,if_true]
 congr 1
 ·omega
 ·congr 1; omega
set_option maxRecDepth 100000 in
theorem setItem_slice {l b sl:Addr}{items new:Array Value}{n n2:Nat}{vl vu:Value}{Q:Unit->Shared->Prop}
  (e:s.heap.get? l=some { cls:=.type "list",data:=.seq items n }) (e2:s.heap.get? b=some { cls:=.type "list",data:=.seq new n2 }) (hne:l ≠ b)
  (hs:s.heap.IsSliceOf sl vl vu .none) (pl:IsPart vl (some (a:Int))) (pu:IsPart vu (some (c:Int))) (hac:a <= c) (hc:c <= items.size)
  (hsz:items.size + new.size <= sizeLine) (h:Q () { s with heap:=s.heap.update l (Obj.mapSeq fun xs=>xs.extract 0 a ++ new ++ xs.extract c xs.size) }) :
  wpAny (model prog w) A (setItem (.ref l) (.ref sl) (.ref b)) Q E s:=by
 have hl:s.heap.IsList l items:=PySem.IsL.isList e;have hb:s.heap.IsList b new:=PySem.IsL.isList e2;obtain ⟨os,hos,hcs,hds⟩:=id hs;have hTs:s.TypeIs (.ref sl) "slice":=⟨os,hos,hcs⟩;have hstep:¬ ((rawPart none == rawInt 0) = true):=Bool.false_ne_true
 have hsame:Builtin.List.listSameRef (.ref l) (.ref b) = false:=by
  unfold Builtin.List.listSameRef;exact beq_eq_false_iff_ne.mpr hne
 have hmax:(max (a:Int) (c:Int)).toNat=c:=by omega
 have hz':((fun xs:Array Value=>xs.extract 0 a ++ new ++ xs.extract c xs.size) items).size <= sizeLine + 1:=by
  simp only [Array.size_append,Array.size_extract];omega
 unfold setItem
 try with_reducible refine wpAny_holding ?_
 first | refine wpAny_bind (wpAny_pure ?_) | skip
 refine wpAny_bind (wpAny_sequenceKey hl.typeIs (by decide) ?_)
 refine wpAny_bind (wpAny_callSpecial?_slot (name:=Str.ofString "__setitem__") hl.typeIs slot_list_setitem
  (wpAny_call_entry slot_list_setitem hl.typeIs entry_list_setitem ?_ (args_list_setitem _ _ _)))
 show wpAny _ _ (Builtin.List.listSubscript? (.ref sl) >>= _) _ _ s;refine wpAny_bind ?_;unfold Builtin.List.listSubscript?;refine wpAny_bind (wpAny_specialOf hTs slice_no_index ?_);simp only [Option.isNone_none,if_true];refine wpAny_pure ?_;show wpAny _ _ (typeOf (.ref sl) >>= _) _ _ s;refine wpAny_bind (wpAny_typeOf hTs ?_)
 first
  | rw [if_neg (by decide)]
  | refine PySem.W.KFB.if_not (by decide) ?_
 rw [listSliceParts_eq];refine wpAny_bind (wpAny_bind (wpAny_field hos hds (x:=.none) rfl (wpAny_bind (wpAny_listPart .none ?_))));rw [if_neg hstep];refine wpAny_bind (wpAny_field hos hds (x:=vl) rfl (wpAny_bind (wpAny_listPart pl ?_)));refine wpAny_bind (wpAny_field hos hds (x:=vu) rfl (wpAny_bind (wpAny_listPart pu (wpAny_pure ?_))))
 first
  | simp only [hsame,Bool.false_eq_true,if_false]
  | refine PySem.W.KFB.if_not hsame ?_
  | (dsimp only
     rw [if_neg (by rw [hsame]; exact Bool.false_ne_true)])
 refine wpAny_bind (m:=Builtin.List.listAllItems (.ref b) "must assign iterable to extended slice") ?_;unfold Builtin.List.listAllItems;refine wpAny_bind (wpAny_typeOf hb.typeIs ?_)
 first
  | refine PySem.W.KFB.if_so (by decide) ?_
  | rw [if_pos (by decide)]
  | simp only [beq_self_eq_true,Bool.true_or,if_true]
 unfold Builtin.List.listItems;refine wpAny_bind (wpAny_seqItems e2 rfl (wpAny_pure ?_));refine wpAny_bind (wpAny_bind (wpAny_seqItems e rfl (wpAny_pure ?_)));refine wpAny_bind (wpAny_of_eq ((sliceIndices_raw (some (a:Int)) (some (c:Int)) none items.size (by simp)).trans (congrArg (pure:Int × Int × Int->Sem (Int × Int × Int)) (bounds_run hac hc))) ?_);show wpAny _ _ (if ((1:Int) == 1) = true then _ else _) _ _ s;rw [if_pos (by decide)];refine wpAny_bind (wpAny_rule ?_)
 first
  | simp only [notLongL hsz,Bool.false_eq_true,if_false]
  | refine PySem.W.KFB.if_not (notLongL hsz) ?_
 first | refine wpAny_bind (wpAny_pure ?_) | skip
 show wpAny _ _ (updateSeq l (fun xs=>xs.extract 0 ((a:Int)).toNat ++ new ++ xs.extract (max (a:Int) (c:Int)).toNat xs.size) >>= _) _ _ s;rw [hmax,Int.toNat_natCast];refine wpAny_bind (wpAny_updateSeq (hz:=Nat.le_trans (Nat.le_add_right _ _) hsz) (_hz':=hz') e rfl ?_);refine wpAny_bind (wpAny_letGo ?_)
 first
  | exact wpAny_bind (wpAny_pure (wpAny_pure ⟨.none,rfl,wpAny_pure h⟩))
  | exact wpAny_pure ⟨.none,rfl,wpAny_pure h⟩
end
section
variable {X:Cx}
end
end L2
namespace Att
open PySem PySem.W PySem.Calls PyProof.Rows
variable {h:Heap}{l:OpenLaw}{P:Params}
theorem b3a :∀ (ns:List Int) (vs:List Value),WellAll P h vs (ns.map WData.int)->IntsAre vs ns:=by
 intro ns
 induction ns with
 | nil=>
  intro vs w;rw [List.map_nil] at w;cases w;exact .nil
 | cons n ns ih=>
  intro vs w;rw [List.map_cons] at w
  cases w with
  | cons a b=>
   cases a;exact .cons _ _ (ih _ b)
theorem script_of {n:Nat}(hn:l.most=some n){args:List WData}{vals:List Value}
  (hpre:l.row.toRowW.claim.pre args=true) (hwl:WellAll P h vals args) :
  ∃ a vs ns,vals=[Value.ref a]/\args=[WData.list (ns.map WData.int)]/\h.get? a=some { cls:=.type "list",data:=.seq vs.toArray }/\IntsAre vs ns/\ns.length <= n:=by
 have hsh:WShape.hasAll [] args [.list .int] = true:=(pre_splitW hpre).1;have hc:l.pre.holds [] { args:=args } = true:=(pre_splitW hpre).2;obtain ⟨d,r,rfl,h1,h2⟩:=hasAllW_cons hsh;obtain rfl:=hasAllW_nil h2;obtain ⟨xs,rfl,h3⟩:=hasW_list h1;obtain ⟨ns,rfl⟩:=items_int h3
 have hlen:ns.length <= n:=by
  unfold OpenLaw.pre at hc
  have h4:(WTm.not (.lt (.lit (.int (n:Int))) (.len (.arg 0)))).holds [] { args:=[.list (ns.map .int)] } = true:=by
   have h4:=(holds_andW hc).1;rw [hn] at h4;exact h4
  have h5:=condW_of h4 (w_not (w_lt w_lit (w_len_list (w_arg rfl))));rw [List.length_map] at h5;refine Nat.le_of_not_lt fun q=>?_;have q':(n:Int) < ((ns.length:Nat):Int):=by omega
  first
   | (rw [decide_eq_true q'] at h5; exact absurd h5 (by decide))
   | (simp at h5; omega)
 cases hwl with
 | cons w1 w2=>
  cases w2
  cases w1 with
  | list ho hall=>exact ⟨_,_,ns,rfl,rfl,ho,b3a ns _ hall,hlen⟩
theorem post_true (l:OpenLaw)(args:List WData):l.row.toRowW.claim.post args (.bool true) args=true:=
 postW_of (r:=l.row.toRowW) (X:=(true == true))
  (show WShape.has [] (.bool true) .bool=true by first | rfl | decide | simp [WShape.has,WShape.arms,WShape.armsAll])
  (show (WTm.eq .res (.lit (.bool true))).value [] { args:=args,res:=some (.bool true),after:=args } = some (.bool (true == true)) from w_eq_bool (w_res rfl) w_lit) rfl
theorem attach_call {n:Nat}{q:Program}{loose:List Str}{XP:(Str->Option Value)->Heap->Prop}{YP:World->Heap->Prop}{d:DefRec}
  (hn:l.most=some n) (hdf:d.params.defaults=[])
  (call:∀ (w:World) (s₀ s₁:Shared) (mg mb:Str->Option Value) (fa:Addr) (o:Obj) (pm cd doc:Value) (a:Addr) (vs:List Value) (ns:List Int),
   Ground q loose [] XP w s₀ mg mb s₁.heap->YP w s₁.heap->
   s₁.heap.get? fa=some o->o.data=.func (docDef d.name d.params d.body d.scope pm cd doc)->s₁.heap.CodeRec cd d.name->mg d.name=some (.ref fa)->
   s₁.heap.get? a=some { cls:=.type "list",data:=.seq vs.toArray }->IntsAre vs ns->ns.length <= n->s₁.gens= #[]->
   codeAny (model l.prog w) callerA (.call (.ref fa) ⟨[.ref a],[]⟩) (fun r s'=>r=.ok (.ret (.bool true))/\OldK s₁.heap s'.heap/\s'.os=s₁.os/\AllBare s'.gens) s₁) :
  WalkO q loose XP YP l.row.toRowW d [] (fun f vs=>PySem.call f vs):=by
 intro w s₀ s₁ mg mb G Y fa o pm cd doc dV kV ho hd hcd hD hmg hg args vals as hpre hlay hrd hwl hlo;obtain rfl:dV=.none:=Dflts.none hD hdf;obtain rfl:kV=.none:=Dflts.noKw hD;obtain ⟨a,vs,ns,rfl,rfl,hobj,hints,hlen⟩:=script_of hn hpre hwl;refine enter_call (codeAny_mono (call w s₀ s₁ mg mb fa o pm cd doc a vs ns G Y ho (fd_plain hd) hcd hmg hobj hints hlen hg) fun r s' hq=>?_);obtain ⟨rfl,h2,h3,h4⟩:=hq;exact ⟨.inl ⟨.bool true,.bool true,[],rfl,fun _=>rfl,.bool true,post_true l _,fun _=>⟨List.Pairwise.nil,fun _ hm=>(nomatch hm)⟩⟩,h2,h3,h4⟩
section
variable {prog:Program}{w:World}{A:Around}{E:Value->Shared->Prop}{s:Shared}{K:Frag}
end
end Att
namespace L2
open PySem PySem.Spec PyProof.Rows
theorem vals_ints:∀ {vs:List Value} {ns:List Int},IntsAre vs ns->a2t (ns.map V.int) vs
 | _,_,.nil=>.nil
 | _,_,.cons n t h=>.cons ⟨t,rfl⟩ (vals_ints h)
def Only (H:Hp):Prop:=∀ b,H b=none\/∃ o xs,H b=some (.frz o (.lst xs))
theorem law_call {P:Program}{w:World}{K:PySem.W.Frag}{mg mb:Str->Option Value}{CX:CXT}{k:Nat}{fa a:Addr}{fd:FuncData}{x:Str}{sp:Sp}{s₁:Shared}{vs:List Value}{ns:List Int}
  (KX:K.In s₁.heap) (hns:s₁.heap.Ns mainGlobals mg) (hb:s₁.heap.Ns builtinsNs mb) (hbb:∀ x:Str,x ≠ "__name__"->mb x=bootBuiltins x) (hlim:s₁.heap.NoLimit) (hg:s₁.gens= #[])
  (ha:s₁.heap.get? a=some { cls:=.type "list",data:=.seq vs.toArray }) (hi:IntsAre vs ns) (hl:ns.length <= sizeLine) (hr:a9v k callerA)
  (F:∀ base:Heap,K.In base->base.Ns mainGlobals mg->a4p P w K mg base CX k fa fd [x] sp) (hbind:∀ (s:Shared) (u:Value),BindsTo s fd ⟨[u],[]⟩ [(x,u)])
  (hsp:∀ H:Hp,Only H->SqL K H a (ns.map V.int)->sp [.ref a] H (fun v _=>v=.bl true) fun _ _ _=>False)
  (hCX:∀ H e s',CX [] H s₁ (fun _ _ _=>False) e s'->False) :
  codeAny (model P w) callerA (.call (.ref fa) ⟨[.ref a],[]⟩) (fun r s'=>r=.ok (.ret (.bool true))/\OldK s₁.heap s'.heap/\s'.os=s₁.os/\AllBare s'.gens) s₁:=by
 have rv:=vals_ints hi;have lenV:=hi.length
 have core:∀ H:Hp,Only H->SqL K H a (ns.map V.int)->HOk P w H s₁.heap->(∀ b,H b ≠ none->b=a)->(H a ≠ none->K.lookup a=none)->
   codeAny (model P w) callerA (.call (.ref fa) ⟨[.ref a],[]⟩) (fun r s'=>r=.ok (.ret (.bool true))/\OldK s₁.heap s'.heap/\s'.os=s₁.os/\AllBare s'.gens) s₁:=by
  intro H hO hS hok hA hK;have base_of:∀ {b:Addr} {o:Obj},s₁.heap.get? b=some o->H b=none->(hidT s₁.heap H).get? b=some o:=fun e n=>hidT_get e n
  have noA:∀ {b:Addr} {o:Obj} {es:Array DictEntry} {ep:Nat},s₁.heap.get? b=some o->o.data=.dict es ep->H b=none:=fun {b o es ep} e d=>by
   cases q:H b with
   | none=>rfl
   | some u=>
    have e':b=a:=hA b (by rw [q]; simp);subst e';rw [ha] at e; cases e;have d':Data.seq vs.toArray _=Data.dict es ep:=d;cases d'
  have nsK:∀ {b:Addr} {m:Str->Option Value},s₁.heap.Ns b m->(hidT s₁.heap H).Ns b m:=fun {b m} ⟨o,es,ep,e,d,r⟩=>⟨o,es,ep,base_of e (noA e d),d,r⟩
  have hKb:K.In (hidT s₁.heap H):=fun b o e=>base_of (KX b o e) (by
   cases q:H b with
   | none=>rfl
   | some u=>
    have e':b=a:=hA b (by rw [q]; simp);subst e'
    rw [hK (by rw [q]; simp)] at e; cases e)
  have hM:Mod K mg (hidT s₁.heap H):=⟨hKb,nsK hns,⟨mb,nsK hb,hbb⟩,let ⟨mc,h1,h2⟩:=hlim; ⟨mc,nsK h1,h2⟩⟩;have e0:Env0 P w K mg (hidT s₁.heap H) callerA [] s₁ H:=⟨rfl,hM,fun b o e=>of_hidT e,Nat.le_of_eq (hidT_size _ _),trivial,fun b hb=>absurd (show b ∈ ([]:List Addr) from hb) (by simp),hok,.of_eq hg⟩;refine codeAny_mono ((F _ hKb (nsK hns)).run callerA [] s₁ H ⟨[.ref a],[]⟩ [.ref a] [.ref a] _ _ hr e0 (hbind s₁ (.ref a)) (.cons rfl .nil) (hsp H hO hS)) fun r s' h=>?_
  cases r with
  | error e=>exact (hCX H e s' h).elim
  | ok fl=>
   cases fl with
   | next=>exact False.elim h
   | brk=>exact False.elim h
   | cont=>exact False.elim h
   | ret u=>
    obtain ⟨v,H',os,bare,un,hok',r',q⟩:=h;have q':v=.bl true:=q;subst q';obtain rfl:u=Value.bool true:=r';refine ⟨rfl,OldK.of_keep fun b o e=>?_,os,bare⟩
    cases q:H b with
    | none=>exact un.keep b o e q (by intro z; exact absurd (show b ∈ ([]:List Addr) from z) (by simp)) (by simp)
    | some u=>
     rcases hO b with z | ⟨ob,xs,z⟩
     ·rw [q] at z; cases z
     ·have z2:=un.frzs b ob _ z;obtain ⟨e1,_⟩:=hok b _ z;obtain ⟨e2,_⟩:=hok' b _ z2;rw [e] at e1; cases e1;exact e2
 cases hk:K.lookup a with
 | some o=>
  have e:=KX a o hk;rw [ha] at e;cases e;refine core (fun _=>none) (fun _=>.inl rfl) (.inr ⟨_,vs.toArray,_,hk,rfl,rfl,rfl,by rw [List.size_toArray,lenV]; exact hl,by simpa using rv⟩) (fun b u z=>by have z':(none:Option HO) = some u:=z; cases z') (fun b z=>absurd rfl z) fun z=>absurd rfl z
 | none=>
  refine core (fun b=>if b=a then some (.frz { cls:=.type "list",data:=.seq vs.toArray } (.lst (ns.map V.int))) else none) (fun b=>?_) (.inl (.inr ⟨{ cls:=.type "list",data:=.seq vs.toArray },if_pos rfl⟩)) (fun b u z=>?_) (fun b z=>?_) fun _=>hk
  ·by_cases hb:b=a
   ·exact .inr ⟨_,_,if_pos hb⟩
   ·exact .inl (if_neg hb)
  ·by_cases hb:b=a
   ·have z':=(if_pos hb).symm.trans z;cases z';subst hb;exact ⟨ha,by rw [List.length_map]; exact hl,vs,_,rv,ha⟩
   ·have z':=(if_neg hb).symm.trans z;cases z'
  ·by_cases hb:b=a
   ·exact hb
   ·exact absurd (if_neg hb) z
end L2
namespace L2
open PySem PySem.Spec PyProof.Rows
theorem walk_of {l:PySem.W.OpenLaw}{n k:Nat}{q:Program}{loose:List Str}{XP:(Str->Option Value)->Heap->Prop}{YP:World->Heap->Prop}{d:DefRec}{K:Params->PySem.W.Frag}{CX:World->CXT}{sp:World->Sp}{x:Str}
  (hn:l.most=some n) (hn2:n <= sizeLine) (hdf:d.params.defaults=[]) (hr:a9v k callerA)
  (hY:∀ (w:World) (h:Heap),YP w h->(K w.params).In h)
  (F:∀ (w:World) (mg:Str->Option Value) (fa:Addr) (h:Heap),(K w.params).In h->h.Ns mainGlobals mg->mg d.name=some (.ref fa)->
   ∃ fd:FuncData,(∀ (s:Shared) (u:Value),BindsTo s fd ⟨[u],[]⟩ [(x,u)])/\
    ∀ base:Heap,(K w.params).In base->base.Ns mainGlobals mg->a4p l.prog w (K w.params) mg base (CX w) k fa fd [x] (sp w))
  (hsp:∀ (w:World) (H:Hp) (a:Addr) (ns:List Int),ns.length <= n->Only H->SqL (K w.params) H a (ns.map V.int)->sp w [.ref a] H (fun v _=>v=.bl true) fun _ _ _=>False)
  (hCX:∀ (w:World) (H:Hp) (s:Shared) (e:Value) (s':Shared),CX w [] H s (fun _ _ _=>False) e s'->False) :
  PySem.W.WalkO q loose XP YP l.row.toRowW d [] (fun f vs=>PySem.call f vs):=by
 refine Att.attach_call hn hdf fun w s₀ s₁ mg mb fa o pm cd doc a vs ns G Y ho hd hcd hmg hobj hints hlen hg=>?_;have KX:=hY w _ Y;obtain ⟨fd,hb,hF⟩:=F w mg fa _ KX G.T.g hmg;exact law_call KX G.T.g G.T.b G.T.builtins G.T.nolimit hg hobj hints (Nat.le_trans hlen hn2) hr hF hb (fun H hO hS=>hsp w H a ns hlen hO hS) fun H e s'=>hCX w H s₁ e s'
end L2
namespace L2
open PySem PySem.Spec PyProof.Rows
variable {f:Addr}{fd:FuncData}{H:Hp}{ps:List Str}{k:Nat}{st:Stmt}{qual x:Str}
def b8m (s:Stmt)(j:Nat):Stmt:=match s with
 | .ClassDef _ _ _ body _ _ _ _ _ _ _=>body.getD j (.Pass ⟨0,0,0,0⟩)
 | _=>.Pass ⟨0,0,0,0⟩
def b0z (s:Stmt):Arguments:=match s with
 | .FunctionDef _ a _ _ _ _ _ _ _ _=>a
 | _=>{ posonlyargs:=[],args:=[],vararg:=none,kwonlyargs:=[],kw_defaults:=[],kwarg:=none,defaults:=[] }
def a8f (s:Stmt):List Stmt:=match s with
 | .FunctionDef _ _ b _ _ _ _ _ _ _=>b
 | _=>[]
def a0k (s:Stmt):Scope:=match s with
 | .FunctionDef _ _ _ _ _ _ sc _ _ _=>sc
 | _=>{ kind:=.function,names:=[],isGenerator:=false,isCoroutine:=false }
abbrev CX0:CXT:=fun _ _ _ _ _ _=>False
abbrev E0:XK:=fun _ _ _=>False
theorem a1z {X:Cx}:a8d CX0 X E0:=fun _ _ _ _ _ _ _ h=>h.elim
structure Fun (K:PySem.W.Frag)(x qual:Str)(st:Stmt)(f:Addr)(fd:FuncData):Prop where
 ex:∃ (oc:Value) (od:Option Addr) (kV doc pm:Value) (an:Option Addr) (cdv ct:Value) (osl:Array (Option Value)),
  fd=PySem.W.fnOf x qual (b0z st) (a8f st) (a0k st) .none kV doc pm an cdv ct/\K.lookup f=some ⟨oc,od,.func fd,osl⟩/\PySem.W.codeIn K cdv qual=true
 kp:PySem.W.keepIn K (.ref f) = true
section
variable {P:Program}{w:World}{K:PySem.W.Frag}{mg:Str->Option Value}{base:Heap}
theorem Fun.ok {N:List Str}{sp:Sp}(F:Fun K x qual st f fd)(S:a0s N ps (a0k st))(len:∀ vs H Q E,sp vs H Q E->vs.length=ps.length)
  (hbody:∀ (cdv:Value) (A:Around) (outer:List Env) (s:Shared) (H:Hp) (vs:List V) (Q:VK) (E:XK),a9v k (A.deeper (envOfC qual (a0k st) s.heap.objs.size f cdv))->sp vs H Q E->
   ∃ t,PSs (cxOf CX0 P w K mg base N qual (a0k st) f cdv A outer s H E).nox (a8f st) t/\t { nx:=fun _ H'=>Q .non H',rt:=Q } (start N vs) H):a4p P w K mg base CX0 (k + 1) f fd ps sp:=by
 obtain ⟨oc,od,kV,doc,pm,an,cdv,ct,osl,rfl,lk,hcd⟩:=F.ex;refine fn_of lk hcd S len fun A outer s H vs Q E hr hsp=>?_;obtain ⟨t,h,q⟩:=hbody cdv A outer s H vs Q E hr hsp;exact ⟨t,h.nox,q⟩
theorem Fun.binds (F:Fun K x qual st f fd)
  (h:∀ (kV doc pm:Value) (an:Option Addr) (cdv ct:Value) (us:List Value),us.length=ps.length->bindArgs (PySem.W.fnOf x qual (b0z st) (a8f st) (a0k st) .none kV doc pm an cdv ct) ⟨us,[]⟩ = pure (ps.zip us)):b4a K fd ps []:=by
 obtain ⟨oc,od,kV,doc,pm,an,cdv,ct,osl,rfl,lk,hcd⟩:=F.ex;exact .all (h kV doc pm an cdv ct)
theorem fun_mk {oc:Value}{od an:Option Addr}{osl:Array (Option Value)}{kV doc pm cdv ct:Value}(l:K.lookup f=some ⟨oc,od,.func (PySem.W.fnOf x qual (b0z st) (a8f st) (a0k st) .none kV doc pm an cdv ct),osl⟩)
  (c:PySem.W.codeIn K cdv qual=true) (k:PySem.W.keepIn K (.ref f) = true):Fun K x qual st f (PySem.W.fnOf x qual (b0z st) (a8f st) (a0k st) .none kV doc pm an cdv ct):=⟨⟨oc,od,kV,doc,pm,an,cdv,ct,osl,rfl,l,c⟩,k⟩
end
theorem hu_of {A:Around}(hr:a9v k A):A.units + 1 < cLine:=Nat.lt_of_le_of_lt (Nat.add_le_add_left (by decide:1 <= 64) _) hr.units
theorem a2j {n:Nat}(h:n <= 1000):n < sizeLine:=Nat.lt_of_le_of_lt h (by decide)
section
variable {X:Cx}
theorem pv (i:Nat){pos:Pos}(hN:X.N[i]? = some x:=by rfl)(hv:Vis X.env.scope x:=by first | exact Or.inl rfl | exact Or.inr (Or.inl rfl) | exact Or.inr (Or.inr rfl))(hd:(x == ("__debug__":Str)) = false:=by decide)
  (hcd:(x == ("__classdict__":Str)) = false:=by decide):PE X (.Name x pos) (tVar i):=pe_var hN hv hd hcd
end
theorem iteF {A B:Prop}(h:B):if false=true then A else B:=by
 rw [if_neg Bool.false_ne_true];exact h
theorem iteT {A B:Prop}(h:A):if true=true then A else B:=by
 rw [if_pos rfl];exact h
def a1u (H H':Hp):Prop:=∀ b o,H b=some o->H' b=some o
theorem a1u.refl (H:Hp):a1u H H:=fun _ _ h=>h
theorem a1u.trans {H1 H2:Hp}(a:a1u H H1)(b:a1u H1 H2):a1u H H2:=fun c o h=>b c o (a c o h)
theorem a1u.seq {K:PySem.W.Frag}{H':Hp}{a:Addr}{xs:List V}(e:a1u H H')(h:SqL K H a xs):SqL K H' a xs:=by
 rcases h with (h | ⟨o,h⟩) | h
 ·exact .inl (.inl (e _ _ h))
 ·exact .inl (.inr ⟨o,e _ _ h⟩)
 ·exact .inr h
end L2
namespace L2
open PySem PySem.Spec PyProof.Rows
variable {X:Cx}{h':Heap}{H H':Hp}{xs:List (List Key × Addr × Value)}{kvs:List (List Key × V)}{pos:Pos}{P:Program}{y:V}{u:Value}{w:World}
section
variable {κ:Type} [DecidableEq κ]
def valV (kvs:List (κ × V))(k:κ):Option V:=(kvs.find? fun kv=>decide (kv.1=k)).map (·.2)
def b7h (kvs:List (κ × V))(k:κ)(v:V):List (κ × V):=
 if (kvs.any fun kv=>decide (kv.1=k)) = true then kvs.map (fun kv=>if kv.1=k then (kv.1,v) else kv) else kvs ++ [(k,v)]
theorem b2n {p:κ × V}{r:List (κ × V)}{k:κ}(e:p.1=k):valV (p :: r) k=some p.2:=by simp [valV,List.find?_cons,e]
theorem b2y {p:κ × V}{r:List (κ × V)}{k:κ}(e:¬ p.1=k):valV (p :: r) k=valV r k:=by simp [valV,List.find?_cons,e]
theorem valV_any (k:κ):∀ kvs:List (κ × V),(kvs.any fun kv=>decide (kv.1=k)) = (valV kvs k).isSome
 | []=>rfl
 | p :: r=>by
  rw [List.any_cons]
  by_cases e:p.1=k
  ·simp only [b2n e,decide_eq_true e,Bool.true_or,Option.isSome_some]
  ·rw [b2y e,decide_eq_false e,Bool.false_or]; exact valV_any k r
theorem a9n (kvs:List (κ × V))(k:κ)(v:V):(b7h kvs k v).length <= kvs.length + 1:=by
 unfold b7h
 split
 ·rw [List.length_map]; omega
 ·rw [List.length_append,List.length_cons,List.length_nil]; omega
theorem RelO.isSome_eq {o:Option V}{u:Option Value}(r:RelO o u):o.isSome=u.isSome:=by
 cases o with
 | none=>cases u with
  | none=>rfl
  | some _=>exact (show False from r).elim
 | some _=>cases u with
  | none=>exact (show False from r).elim
  | some _=>rfl
theorem RelO.getD {o:Option V}{u:Option Value}{d:V}{d':Value}(r:RelO o u)(rd:a2s d d'):a2s (o.getD d) (u.getD d'):=by
 cases o with
 | none=>cases u with
  | none=>exact rd
  | some _=>exact (show False from r).elim
 | some _=>cases u with
  | none=>exact (show False from r).elim
  | some _=>exact r
theorem KV.val {kvs:List (κ × V)}{vs:List (κ × Value)}(r:KV kvs vs)(k:κ):RelO (valV kvs k) (valueAt vs k):=by
 unfold KV at r
 induction r with
 | nil=>exact True.intro
 | @cons p q ps qs h t ih=>
  obtain ⟨h1,h2⟩:=h
  by_cases e:p.1=k
  ·have e':q.1=k:=h1.symm.trans e;have b:valueAt (q :: qs) k=some q.2:=by simp [valueAt,List.find?_cons,e']
   rw [b2n e,b]; exact h2
  ·have e':¬ q.1=k:=fun z=>e (h1.trans z);have b:valueAt (q :: qs) k=valueAt qs k:=by simp [valueAt,List.find?_cons,e']
   rw [b2y e,b]; exact ih
theorem KV.any {kvs:List (κ × V)}{vs:List (κ × Value)}(r:KV kvs vs)(k:κ):(kvs.any fun kv=>decide (kv.1=k)) = vs.any fun kv=>decide (kv.1=k):=by
 unfold KV at r
 induction r with
 | nil=>rfl
 | cons h t ih=>rw [List.any_cons,List.any_cons,ih,h.1]
theorem KV.repl {kvs:List (κ × V)}{vs:List (κ × Value)}(r:KV kvs vs)(k:κ)(ry:a2s y u) :
  KV (kvs.map fun kv=>if kv.1=k then (kv.1,y) else kv) (vs.map fun kv=>if kv.1=k then (kv.1,u) else kv):=by
 unfold KV at r ⊢
 induction r with
 | nil=>exact .nil
 | @cons p q ps qs h t ih=>
  rw [List.map_cons,List.map_cons];refine .cons ?_ ih;obtain ⟨h1,h2⟩:=h
  by_cases e:p.1=k
  ·rw [if_pos e,if_pos (h1.symm.trans e)]; exact ⟨h1,ry⟩
  ·rw [if_neg e,if_neg (fun z=>e (h1.trans z))]; exact ⟨h1,h2⟩
theorem KV.put {kvs:List (κ × V)}{vs:List (κ × Value)}(r:KV kvs vs)(k:κ)(ry:a2s y u):KV (b7h kvs k y) (stored vs k u):=by
 unfold b7h stored;rw [r.any k]
 by_cases e:(vs.any fun kv=>decide (kv.1=k)) = true
 ·rw [if_pos e,if_pos e]; exact r.repl k ry
 ·rw [if_neg e,if_neg e]; exact Paired.snoc r ⟨rfl,ry⟩
theorem KV.length {kvs:List (κ × V)}{vs:List (κ × Value)}(r:KV kvs vs):kvs.length=vs.length:=Paired.length r
end
theorem kV_is {k:Key}(r:a2s (kV k) u):(a1f P w).is k u=true:=by
 cases k with
 | inl i=>obtain ⟨t,e⟩:=(show ∃ t,u=Value.int i t from r); subst e; exact mixKind_int P w i t
 | inr x=>obtain ⟨t,e⟩:=(show ∃ t,u=Value.str x t from r); subst e; exact mixKind_str P w x t
theorem items_are {P:Program}{w:World}:∀ {ks:List Key} {us:List Value},a2t (ks.map kV) us->ItemsAre (a1f P w) ks us
 | [],_,r=>by rw [List.map_nil] at r; cases r; exact .nil
 | k :: ks,_,r=>by
  rw [List.map_cons] at r
  cases r with
  | cons h t=>exact .cons (kV_is h) (items_are t)
abbrev KT (H:Hp):List (List Key × V)->List (List Key × Addr × Value)->Prop:=Paired fun p q=>p.1=q.1/\H q.2.1=some (.tup (p.1.map kV))/\a2s p.2 q.2.2
theorem KT.val (r:KT H kvs xs)(k:List Key):RelO (valV kvs k) ((atKey xs k).map (·.2)):=by
 induction r with
 | nil=>exact True.intro
 | @cons p q ps qs h t ih=>
  obtain ⟨h1,_,h2⟩:=h
  by_cases e:p.1=k
  ·have e':q.1=k:=h1.symm.trans e;have b:atKey (q :: qs) k=some q.2:=by simp [atKey,List.find?_cons,e']
   rw [b2n e,b]; exact h2
  ·have e':¬ q.1=k:=fun z=>e (h1.trans z);have b:atKey (q :: qs) k=atKey qs k:=by simp [atKey,List.find?_cons,e']
   rw [b2y e,b]; exact ih
theorem KT.repl (r:KT H kvs xs)(k:List Key)(ry:a2s y u) :
  KT H (kvs.map fun kv=>if kv.1=k then (kv.1,y) else kv) (xs.map (putAt k u)):=by
 induction r with
 | nil=>exact .nil
 | @cons p q ps qs h t ih=>
  rw [List.map_cons,List.map_cons];refine .cons ?_ ih;obtain ⟨h1,h2,h3⟩:=h;unfold putAt
  by_cases e:p.1=k
  ·rw [if_pos e,if_pos (h1.symm.trans e)]; exact ⟨h1,h2,ry⟩
  ·rw [if_neg e,if_neg (fun z=>e (h1.trans z))]; exact ⟨h1,h2,h3⟩
theorem KT.put (r:KT H kvs xs)(k:List Key){b:Addr}(hb:H b=some (.tup (k.map kV)))(ry:a2s y u) :
  KT H (b7h kvs k y) (storedH xs k b u):=by
 have e:(kvs.any fun kv=>decide (kv.1=k)) = (atKey xs k).isSome:=by
  rw [valV_any,(r.val k).isSome_eq,Option.isSome_map]
 unfold b7h storedH;rw [e]
 by_cases q:(atKey xs k).isSome=true
 ·rw [if_pos q,if_pos q]; exact r.repl k ry
 ·rw [if_neg q,if_neg q]; exact Paired.snoc r ⟨rfl,hb,ry⟩
theorem KT.keeps (r:KT H kvs xs)(ht:∀ b ys,H b=some (.tup ys)->H' b=some (.tup ys)):KT H' kvs xs:=
 Paired.mapP r fun _ _ z=>⟨z.1,ht _ _ z.2.1,z.2.2⟩
section
variable {P:Program}{w:World}{H:Hp}{h:Heap}{a:Addr}
theorem rd_of {u:HO}(ok:HOk P w H h)(e:Rd H a u):a2w P w H h a u:=e.ok ok
theorem dk_rd {kvs:List (Key × V)}(ok:HOk P w H h)(e:Rd H a (.dK kvs)):kvs.length <= sizeLine/\(a == sysModules) = false/\∃ vs,KV kvs vs/\h.DictOf (a1f P w) a vs:=
 show a2w P w H h a (.dK kvs) from rd_of ok e
theorem dk_of {kvs:List (Key × V)}(ok:HOk P w H h)(e:H a=some (.dK kvs)):kvs.length <= sizeLine/\(a == sysModules) = false/\∃ vs,KV kvs vs/\h.DictOf (a1f P w) a vs:=dk_rd ok (.inl e)
theorem key_of {ks:List Key}(ok:HOk P w H h)(e:H a=some (.tup (ks.map kV))):(tupleKind (a1f P w)).is h ks a:=by
 obtain ⟨_,its,r,o,h1,h2,n,h3⟩:=(show a2w P w H h a (.tup (ks.map kV)) from ok a _ e);exact ⟨o,its.toArray,n,h1,h2,h3,by simpa using items_are r⟩
theorem dt_rd (ok:HOk P w H h)(e:Rd H a (.dT kvs)):kvs.length <= sizeLine/\(a == sysModules) = false/\
  ∃ xs,KT H kvs xs/\h.DictOfH (tupleKind (a1f P w)) a xs:=by
 obtain ⟨z,y,xs,r,o,es,ep,h1,h2,h3,h4,h5⟩:=(show a2w P w H h a (.dT kvs) from rd_of ok e);refine ⟨z,y,xs,r,o,es,ep,h1,h2,h3,h4,fun x hx=>?_,h5⟩
 have all:∀ {l:List (List Key × V)} {m:List (List Key × Addr × Value)},KT H l m->∀ x ∈ m,(tupleKind (a1f P w)).is h x.1 x.2.1:=by
  intro l m q
  induction q with
  | nil=>intro x hx; exact nomatch hx
  | @cons p q ps qs hq t ih=>
   intro x hx
   rcases List.mem_cons.mp hx with e | hx
   ·subst e;exact key_of ok (by rw [<- hq.1]; exact hq.2.1)
   ·exact ih x hx
 exact all r x hx
theorem dt_of (ok:HOk P w H h)(e:H a=some (.dT kvs)):kvs.length <= sizeLine/\(a == sysModules) = false/\
  ∃ xs,KT H kvs xs/\h.DictOfH (tupleKind (a1f P w)) a xs:=dt_rd ok (.inl e)
end
def DGet (H:Hp)(a:Addr)(y:V)(r:Option V):Prop:=
 (∃ kvs k,Rd H a (.dK kvs)/\y=kV k/\r=valV kvs k)\/∃ kvs k b,Rd H a (.dT kvs)/\y=.ref b/\H b=some (.tup (k.map kV))/\r=valV kvs k
def DPut (H:Hp)(a:Addr)(y v:V)(H':Hp):Prop:=
 (∃ kvs k,H a=some (.dK kvs)/\y=kV k/\kvs.length < sizeLine/\H' = upd H a (.dK (b7h kvs k v)))\/
 ∃ kvs k b,H a=some (.dT kvs)/\y=.ref b/\H b=some (.tup (k.map kV))/\kvs.length < sizeLine/\H' = upd H a (.dT (b7h kvs k v))
section
variable {X:Cx}{pins:List (Addr × Obj)}{σ:St}{H:Hp}{s:Shared}{a:Addr}{y v:V}{u r:Value}{o:Option V}{A:Around}{E:Value->Shared->Prop}
theorem Inv.big (I:Inv X pins σ H s):sysModules < s.heap.objs.size:=by
 have h:mainGlobals < s.heap.objs.size:=(I.mod.glob.keeps I.bk).lt;exact Nat.lt_trans (by decide) h
theorem d_write {t':Nat}{ob:HO}(I:Inv X pins σ H s)(mu:Mut (H a))(hs:Heap.SameBut a s.heap h')(he:∃ q,h'.get? a=some q)(new:a2w X.prog X.w (upd H a ob) h' a ob) :
  Inv X pins σ (upd H a ob) { s with heap:=h',toks:=t' }:=
 I.write (x:=a) (e:=a) mu (.inl rfl) (fun b q hb z=>(hs.2 b hb).trans z) he new
theorem dk_new {kvs:List (Key × V)}{vs:List (Key × Value)}(z:kvs.length <= sizeLine)(hd:(a == sysModules) = false)(rel:KV kvs vs)(dd:h'.DictOf (a1f P w) a vs) :
  a2w P w H' h' a (.dK kvs):=⟨z,hd,vs,rel,dd⟩
theorem d_setItem {Q:Unit->Shared->Prop}(hu:A.units + 1 < cLine)(I:Inv X pins σ H s)(g:DPut H a y v H')(ry:a2s y u)(rv:a2s v r)(h:∀ s',Inv X pins σ H' s'->Q () s') :
  wpAny (model X.prog X.w) A (setItem (.ref a) u r) Q E s:=by
 rcases g with ⟨kvs,k,e,ey,l,eH⟩ | ⟨kvs,k,b,e,ey,eb,l,eH⟩
 ·subst ey eH;obtain ⟨z,hd,vs,rel,dd⟩:=dk_of I.hok e;have hz:vs.length <= sizeLine:=by rw [<- rel.length]; exact z
  have hl:(b7h kvs k v).length <= sizeLine:=by have:=a9n kvs k v; omega
  refine wpAny_setItem_pairs (hsz:=hz) (kV_is ry) dd fun h' dd' hs=>h _ ?_;have he:∃ q,h'.get? a=some q:=let ⟨q,_,_,hq,_⟩:=dd'; ⟨q,hq⟩;exact d_write I (by rw [e]; exact True.intro) hs he (dk_new hl hd (rel.put k rv) dd')
 ·subst ey eH;cases (show u=Value.ref b from ry);obtain ⟨z,hd,xs,rel,dd⟩:=dt_of I.hok e;have hz:xs.length <= sizeLine:=by rw [<- Paired.length rel]; exact z
  have hl:(b7h kvs k v).length <= sizeLine:=by have:=a9n kvs k v; omega
  refine wpAny_setItem_heap (hsz:=hz) (tupleKind_room_in1 hu) (key_of I.hok eb) dd fun h' dd' hs=>h _ ?_;obtain ⟨q,es,ep,hq,h2,h3,h4,_,h5⟩:=dd';refine d_write I (by rw [e]; exact True.intro) hs ⟨q,hq⟩ ⟨hl,hd,_,(rel.put k eb rv).keeps fun c ys ec=>?_,q,es,ep,hq,h2,h3,h4,h5⟩;rw [a0m (a9u ec e (fun z=>nomatch z))];exact ec
end
section
variable {X:Cx}{pins:List (Addr × Obj)}{σ:St}{H:Hp}{s:Shared}{a:Addr}{kvs:List (Key × V)}{k:Key}{u:Value}{A:Around}{E:Value->Shared->Prop}
end
def sDPut (td ty tv:TE):TS:=fun D σ H=>tv σ H fun v H1=>td σ H1 fun x H2=>ty σ H2 fun y H3=>∃ a H4,x=.ref a/\DPut H3 a y v H4/\D.nx σ H4
section
variable {X:Cx}{o i e value:Expr}{pos pos' tpos:Pos}{td ty tv:TE}
theorem ps_dput (hu:X.A.units + 1 < cLine)(ho:PE X o td)(hi:PE X i ty)(hv:PE X value tv)(hs:swapsWith value (some (.Subscript o i pos')) pos.line X.env=pure false) :
  PS X (.Assign [.Subscript o i pos'] value pos) (sDPut td ty tv):=by
 intro pins s σ H D I h;refine wpAny_Assign_Subscript (thn (hv pins s σ H _ I h) fun r s1 ⟨v,H1,I1,rv,q1⟩=>thn (ho pins s1 σ H1 _ I1 q1) fun u s2 ⟨x,H2,I2,rx,q2⟩=>thn (hi pins s2 σ H2 _ I2 q2) fun iv s3 ⟨y,H3,I3,ry,a,H4,ex,g,q3⟩=>?_) hs;subst ex;obtain rfl:u=Value.ref a:=rx;exact d_setItem hu I3 g ry rv fun s4 I4=>⟨σ,H4,I4,q3⟩
end
theorem dk_empty (h:Heap)(hb:sysModules < h.objs.size):a2w P w H (h.push { cls:=.type "dict",data:=.dict #[] }) h.objs.size (.dK []):=
 ⟨Nat.zero_le _,beq_eq_false_iff_ne.mpr (Ne.symm (Nat.ne_of_lt hb)),[],.nil,Heap.DictOf.new h⟩
section
variable {X:Cx}{pos:Pos}
end
def tPairs:List (TE × TE)->St->Hp->(List (V × V)->Hp->Prop)->Prop
 | [],_,H,Q=>Q [] H
 | (tk,tv) :: r,σ,H,Q=>tk σ H fun x H1=>tv σ H1 fun y H2=>tPairs r σ H2 fun ps H3=>Q ((x,y) :: ps) H3
abbrev VV:List (V × V)->List (Value × Value)->Prop:=Paired fun p q=>a2s p.1 q.1/\a2s p.2 q.2
def PPs (X:Cx)(pos:Pos)(keys:List (Option Expr))(values:List Expr)(trs:List (TE × TE)):Prop:=
 ∀ (pins:List (Addr × Obj)) (s:Shared) (σ:St) (H:Hp) (Q:List (V × V)->Hp->Prop),Inv X pins σ H s->tPairs trs σ H Q->
  wpAny (model X.prog X.w) X.A (evalPairs (pairTrees keys values X.env pos)) (fun vs s'=>∃ ps H',Inv X pins σ H' s'/\VV ps vs/\Q ps H') X.xe s
theorem pps_nil :PPs X pos [] [] []:=fun pins s σ H Q I h=>pairTrees_nil_walk ⟨[],H,I,.nil,h⟩
theorem pps_cons {k v:Expr}{ks:List (Option Expr)}{vs:List Expr}{tk tv:TE}{trs:List (TE × TE)}(hk:PE X k tk)(hv:PE X v tv)(hr:PPs X pos ks vs trs) :
  PPs X pos (some k :: ks) (v :: vs) ((tk,tv) :: trs):=fun pins s σ H Q I h=>
 pairTrees_cons_walk (thn (hk pins s σ H _ I h) fun u s1 ⟨x,H1,I1,rx,q1⟩=>thn (hv pins s1 σ H1 _ I1 q1) fun w2 s2 ⟨y,H2,I2,ry,q2⟩=>
  thn (hr pins s2 σ H2 _ I2 q2) fun ws s3 ⟨ps,H3,I3,rel,q3⟩=>⟨(x,y) :: ps,H3,I3,.cons ⟨rx,ry⟩ rel,q3⟩)
def b6e (kvs more:List (Key × V)):List (Key × V):=more.foldl (fun acc kv=>b7h acc kv.1 kv.2) kvs
theorem KV.merge:∀ {more:List (Key × V)} {rs:List (Key × Value)} {kvs:List (Key × V)} {vs:List (Key × Value)},KV more rs->KV kvs vs->KV (b6e kvs more) (merged vs rs):=by
 intro more rs kvs vs r;unfold KV at r
 induction r generalizing kvs vs with
 | nil=>intro q; exact q
 | @cons p q ps qs h t ih=>
  intro r0
  have e:KV (b7h kvs p.1 p.2) (stored vs q.1 q.2):=by
   have:=r0.put p.1 h.2;rw [<- h.1]; exact this
  exact ih e
theorem b0d:∀ (more kvs:List (Key × V)),(b6e kvs more).length <= kvs.length + more.length
 | [],kvs=>by show kvs.length <= kvs.length + 0; omega
 | p :: r,kvs=>by
  have h1:=b0d r (b7h kvs p.1 p.2);have h2:=a9n kvs p.1 p.2;show (b6e (b7h kvs p.1 p.2) r).length <= _;rw [List.length_cons]; omega
theorem b5s {P:Program}{w:World}:∀ {kvs:List (Key × V)} {ws:List (Value × Value)},VV (kvs.map fun kv=>(kV kv.1,kv.2)) ws->∃ rs,Carries (a1f P w) ws rs/\KV kvs rs
 | [],_,r=>by rw [List.map_nil] at r; cases r; exact ⟨[],True.intro,.nil⟩
 | p :: kvs,_,r=>by
  rw [List.map_cons] at r
  cases r with
  | @cons a b as bs h t=>
   obtain ⟨rs,c,q⟩:=b5s (P:=P) (w:=w) t;obtain ⟨b1,b2⟩:=b;exact ⟨(p.1,b2) :: rs,⟨kV_is h.1,rfl,c⟩,.cons ⟨rfl,h.2⟩ q⟩
def tDisp (trs:List (TE × TE)):TE:=fun σ H Q=>∀ p,H p=none->tPairs trs σ (upd H p (.dK [])) fun ps H2=>H2 p=some (.dK [])/\∃ kvs:List (Key × V),ps=kvs.map (fun kv=>(kV kv.1,kv.2))/\kvs.length <= 15/\Q (.ref p) (upd H2 p (.dK (b6e [] kvs)))
theorem pe_disp {keys:List (Option Expr)}{values:List Expr}{trs:List (TE × TE)}(h:PPs X pos keys values trs)(hall:keys.all (·.isSome) = true)(hl:keys.length=values.length)(h0:keys ≠ [])
  (h15:keys.length <= 15):PE X (.Dict keys values pos) (tDisp trs):=by
 intro pins s σ H Q I q;have hn:=I.hok.fresh (Nat.le_refl s.heap.objs.size);have I1:=I.laid (a:=s.heap.objs.size) (o:=.dK []) (h':=s.heap.push { cls:=.type "dict",data:=.dict #[] }) (t':=s.toks) (fun _ _ q=>Heap.get?_push_of_some _ q) (Nat.le_refl _) (dk_empty s.heap I.big);refine wpAny_Dict_walk (knd:=a1f X.prog X.w) hall hl h0 h15 (thn (h pins _ σ _ _ I1 (q _ hn)) fun ws s2 ⟨ps,H2,I2,rel,e,kvs,ep,lk,q2⟩=>?_);subst ep;obtain ⟨rs,c,rk⟩:=b5s (P:=X.prog) (w:=X.w) rel;obtain ⟨z,hd,vs0,r0,dd⟩:=dk_of I2.hok e;cases r0;refine ⟨rs,c,dd,fun h' dd' hs=>⟨.ref s.heap.objs.size,_,?_,rfl,q2⟩⟩
 have hz:(b6e [] kvs).length <= sizeLine:=by
  have h1:=b0d kvs [];rw [List.length_nil] at h1;rw [sizeLine_eq]; omega
 have he:∃ q,h'.get? s.heap.objs.size=some q:=let ⟨q,_,_,hq,_⟩:=dd'; ⟨q,hq⟩;exact d_write I2 (by rw [e]; exact True.intro) hs he (dk_new hz hd (rk.merge .nil) dd')
structure M2 (X:Cx)(o:Expr)(m:Str)(apos:Pos)(e f:Expr)(cpos:Pos):Prop where
 base:attributeBase o m X.env (eval o X.env) = eval o X.env
 few:((backTo cpos (starEach [e,f] X.env)).all (fun x=>!x.1) && (backToKw cpos (keywordEach [] X.env)).all (fun x=>x.1.isSome)
  && decide (([e,f]:List Expr).length + ([]:List Keyword).length + (if ([]:List Keyword).isEmpty then 0 else 1) < 30)) = true
 line:(apos.endLine == cpos.line) = true
 trees:backTo cpos (starEach [e,f] X.env) = [(false,eval e X.env),(false,eval f X.env)]
def IsD (H:Hp)(a:Addr):Prop:=(∃ kvs,Rd H a (.dK kvs))\/∃ kvs,Rd H a (.dT kvs)
theorem isD_at {pins:List (Addr × Obj)}{σ:St}{s:Shared}{a:Addr}(I:Inv X pins σ H s)(d:IsD H a) :
  s.TypeIs (.ref a) "dict"/\(∀ b,Value.ref a=.ref b->∃ ob,s.heap.get? b=some ob/\ob.dict=none)/\(a == sysModules) = false:=by
 rcases d with ⟨kvs,e⟩ | ⟨kvs,e⟩
 ·obtain ⟨_,hd,vs,_,dd⟩:=dk_rd I.hok e;refine ⟨dd.typeIs,fun b q=>?_,hd⟩;cases q;obtain ⟨ob,_,_,h1,h2,_⟩:=dd;exact ⟨ob,h1,h2.2.1⟩
 ·obtain ⟨_,hd,xs,_,dd⟩:=dt_rd I.hok e;refine ⟨dd.typeIs,fun b q=>?_,hd⟩;cases q;obtain ⟨ob,_,_,h1,h2,_⟩:=dd;exact ⟨ob,h1,h2.2.1⟩
section
variable {X:Cx}{pins:List (Addr × Obj)}{σ:St}{H:Hp}{s:Shared}{a:Addr}{y d:V}{u r:Value}{o:Option V}{A:Around}{E:Value->Shared->Prop}
theorem d_get2 {Q:Value->Shared->Prop}(hu:A.units + 1 < cLine)(I:Inv X pins σ H s)(g:DGet H a y o)(ry:a2s y u)(rd:a2s d r)(h:∀ w' s',Inv X pins σ H s'->a2s (o.getD d) w'->Q w' s') :
  wpAny (model X.prog X.w) A (call (.builtin "dict.get") [.ref a,u,r]) Q E s:=by
 rcases g with ⟨kvs,k,e,ey,l⟩ | ⟨kvs,k,b,e,ey,eb,l⟩
 ·subst ey;obtain ⟨z,hd,vs,rel,dd⟩:=dk_rd I.hok e;refine call_meetsIn PySem.F.slot_dict_get dd.typeIs PySem.F.entry_dict_get (PySem.F.args_dict_get_3 _ _ _) (meets_dict_get_default (a1f X.prog X.w) a (kV_is ry) hd r) ⟨_,dd.mapOf,h _ _ (I.tok _) ?_⟩;rw [l];exact (rel.val k).getD rd
 ·subst ey;cases (show u=Value.ref b from ry);obtain ⟨z,hd,xs,rel,dd⟩:=dt_rd I.hok e;refine call_meetsIn PySem.F.slot_dict_get dd.typeIs PySem.F.entry_dict_get (PySem.F.args_dict_get_3 _ _ _) (meetsH_dict_get_default (tupleKind (a1f X.prog X.w)) a b hd r) ⟨tupleKind_room_in1 hu,k,xs,key_of I.hok eb,dd,h _ _ (I.tok _) ?_⟩;rw [l];exact (rel.val k).getD rd
end
def tDGet2 (td ty tx:TE):TE:=fun σ H Q=>td σ H fun x H1=>∃ a,x=.ref a/\IsD H1 a/\ty σ H1 fun y H2=>tx σ H2 fun z H3=>∃ o,DGet H3 a y o/\Q (o.getD z) H3
section
variable {X:Cx}{o e f:Expr}{apos cpos:Pos}{td ty tx:TE}
theorem pe_dget2 (hu:X.A.units + 1 < cLine)(ho:PE X o td)(he:PE X e ty)(hf:PE X f tx)(m:M2 X o "get" apos e f cpos):PE X (.Call (.Attribute o "get" apos) [e,f] [] cpos) (tDGet2 td ty tx):=by
 intro pins s σ H Q I h;refine wpAny_Call_method m.base m.few m.line PySem.F.plainAttrs_dict PySem.F.slot_dict_get PySem.F.type_dict_get (thn (ho pins s σ H _ I h) fun u s1 ⟨x,H1,I1,rx,a,ex,d,q1⟩=>?_);subst ex;obtain rfl:u=Value.ref a:=rx;obtain ⟨t1,t2,_⟩:=isD_at I1 d;refine ⟨t1,t2,?_⟩;rw [m.trees]
 refine Calls.callWith_builtin rfl (Calls.evalArgs_plain (Calls.spliced_cons (thn (he pins s1 σ H1 _ I1 q1) fun iv s2 ⟨y,H2,I2,ry,q2⟩=>
  Calls.spliced_cons (thn (hf pins s2 σ H2 _ I2 q2) fun fv s3 ⟨z,H3,I3,rz,ov,g,q3⟩=>Calls.spliced_nil ?_))))
 exact d_get2 hu I3 g ry rz fun w' s4 I4 rw'=>⟨_,H3,I4,rw',q3⟩
end
section
variable {X:Cx}{pins:List (Addr × Obj)}{σ:St}{H:Hp}{s:Shared}{a:Addr}{kvs:List (Key × V)}{A:Around}{E:Value->Shared->Prop}
end
section
variable {X:Cx}{pins:List (Addr × Obj)}{σ:St}{H:Hp}{s:Shared}{a:Addr}{y:V}{u:Value}{A:Around}{E:Value->Shared->Prop}
end
end L2
namespace L2
open PySem PySem.Spec PyProof.Rows
section
variable {X:Cx}
end
section
variable {κ:Type} [DecidableEq κ]
end
end L2
namespace L2
open PySem PySem.Spec PyProof.Rows
structure Cal (P:Program)(w:World)(K:PySem.W.Frag)(mg:Str->Option Value)(base:Heap)(CX:CXT)(k:Nat)(x:Str)(ps:List Str)(sp:Sp):Prop where
 ex:∃ f fd,a4p P w K mg base CX k f fd ps sp/\b4a K fd ps []/\PySem.W.keepIn K (.ref f) = true/\mg x=some (.ref f)
def GC (mg:Str->Option Value)(x:Str)(v:V):Prop:=∃ u,mg x=some u/\a2s v u
section
variable {X:Cx}{CX:CXT}{j k:Nat}{ps:List Str}{sp:Sp}{E:XK}{x:Str}{v:V}{p pos:Pos}{e:Expr}{es:List Expr}{t:TA}
theorem a2f (c:Cal X.prog X.w X.K X.mg X.base CX k x ps sp)(hr:a9v j X.A)(hx:a8d CX X E)(ha:PA X (e :: es) t)(hk:k <= j:=by decide)(hg:Gl X x:=by rfl)(hdb:(x == ("__debug__":Str)) = false:=by decide)
  (he:starEach (e :: es) X.env=(false,eval e X.env) :: starEach es X.env:=by rfl) (hpl:(backTo pos (starEach es X.env)).any (·.1) = false:=by rfl) :
  PE X (.Call (.Name x p) (e :: es) [] pos) (tCall sp [] E t):=by
 obtain ⟨f,fd,F,b,kp,m⟩:=c.ex;exact pe_call F (hr.mono hk) hg m kp b .nil hx ha hdb he hpl
theorem b1a (h:GC X.mg x v)(hg:Gl X x:=by rfl)(hd:(x == ("__debug__":Str)) = false:=by decide):PE X (.Name x pos) (tC v):=by
 obtain ⟨u,m,r⟩:=h;exact pe_glob hg m r hd
def CDivW (i j:Int):Prop:=0 < j/\j < 2 ^ 200
theorem b0f:OpR X (binaryOp .FloorDiv) (rI CDivW fun i j=>.int (i / j)):=opI fun i j _ _ _ _ _ hc q=>by
 have h1:(0:Int) < j:=hc.1;have h2:j < 2 ^ 200:=hc.2;have h3:j.natAbs < 2 ^ 200:=by omega
 have h4:j.natAbs.log2 < 200:=(Nat.log2_lt (by omega)).mpr h3;exact floordiv_int (by omega) (by rw [Int.fdiv_eq_ediv_of_nonneg i (by omega)]; exact q) (.inl (PyProof.noPylong_of_log2 (by omega)))
end
mutual
inductive DV (K:PySem.W.Frag) (H:Hp):V->PyData->Prop
 | non:DV K H .non .none
 | bl (b:Bool):DV K H (.bl b) (.bool b)
 | int (i:Int):DV K H (.int i) (.int i)
 | str (x:Str):DV K H (.str x) (.str x)
 | tup {a xs ds}:SqT K H a xs->DVs K H xs ds->DV K H (.ref a) (.tuple ds)
 | lst {a xs ds}:SqL K H a xs->DVs K H xs ds->DV K H (.ref a) (.list ds)
inductive DVs (K:PySem.W.Frag) (H:Hp):List V->List PyData->Prop
 | nil:DVs K H [] []
 | cons {x xs d ds}:DV K H x d->DVs K H xs ds->DVs K H (x :: xs) (d :: ds)
end
section
variable {X:Cx}{pins:List (Addr × Obj)}{σ:St}{H:Hp}{s:Shared}
mutual
theorem DV.reads (I:Inv X pins σ H s):∀ {x:V} {d:PyData} {u:Value},DV X.K H x d->a2s x u->∃ as,Reads s.heap u d as
 | _,_,_,.non,r=>by cases r; exact ⟨_,Reads.none⟩
 | _,_,_,.bl b,r=>by cases r; exact ⟨_,Reads.bool b⟩
 | _,_,_,.int i,r=>by obtain ⟨t,rfl⟩:=r; exact ⟨_,Reads.int i t⟩
 | _,_,_,.str x,r=>by obtain ⟨t,rfl⟩:=r; exact ⟨_,Reads.str x t⟩
 | _,_,_,.tup h hs,r=>by
  cases r;obtain ⟨its,rs,⟨o,ho,hc,n,hd⟩,_⟩:=I.tuple h;obtain ⟨as,q⟩:=DVs.reads I hs rs;exact ⟨_,reads_tuple_at ho hc hd (by simpa using q)⟩
 | _,_,_,.lst h hs,r=>by
  cases r;obtain ⟨its,rs,⟨o,n,ho,hc,_,hd⟩,_⟩:=I.list h;obtain ⟨as,q⟩:=DVs.reads I hs rs;exact ⟨_,reads_list_at ho hc hd (by simpa using q)⟩
theorem DVs.reads (I:Inv X pins σ H s):∀ {xs:List V} {ds:List PyData} {us:List Value},DVs X.K H xs ds->a2t xs us->∃ as,ReadsAll s.heap us ds as
 | _,_,_,.nil,.nil=>⟨_,ReadsAll.nil⟩
 | _,_,_,.cons h hs,.cons r rs=>by
  obtain ⟨as,q⟩:=DV.reads I h r;obtain ⟨bs,p⟩:=DVs.reads I hs rs;exact ⟨_,ReadsAll.cons q p⟩
end
def rEqD (K:PySem.W.Frag):R2:=fun x y H Q=>∃ d e,DV K H x d/\DV K H y e/\SeqAt.shaped d=true/\SeqAt.shaped e=true/\Q (.bl (PyData.eqv d e)) H
def rNeD (K:PySem.W.Frag):R2:=fun x y H Q=>∃ d e,DV K H x d/\DV K H y e/\SeqAt.shaped d=true/\SeqAt.shaped e=true/\Q (.bl (!PyData.eqv d e)) H
theorem op_eqD (hu:X.A.units + 64 < cLine):OpR X (compareOp .Eq) (rEqD X.K):=by
 intro pins s σ H x y v u Q I rx ry h;obtain ⟨d,e,hd,he,sd,se,q⟩:=h;obtain ⟨as,ra⟩:=hd.reads I rx;obtain ⟨bs,rb⟩:=he.reads I ry;exact eq_dataH ra rb sd se hu ⟨.bl _,H,I,rfl,q⟩
theorem op_neD (hu:X.A.units + 64 < cLine):OpR X (compareOp .NotEq) (rNeD X.K):=by
 intro pins s σ H x y v u Q I rx ry h;obtain ⟨d,e,hd,he,sd,se,q⟩:=h;obtain ⟨as,ra⟩:=hd.reads I rx;obtain ⟨bs,rb⟩:=he.reads I ry;exact ne_dataH ra rb sd se hu ⟨.bl _,H,I,rfl,q⟩
end
theorem a1u.tup {K:PySem.W.Frag}{H H':Hp}{a:Addr}{xs:List V}(e:a1u H H')(h:SqT K H a xs):SqT K H' a xs:=by
 rcases h with (h | ⟨o,h⟩) | h
 ·exact .inl (.inl (e _ _ h))
 ·exact .inl (.inr ⟨o,e _ _ h⟩)
 ·exact .inr h
theorem a0e {H:Hp}{p:Addr}(h:H p=none)(o:HO):a1u H (upd H p o):=fun b u q=>by rw [a0m (a0h q h)]; exact q
end L2
namespace L2
open PySem PySem.Spec PyProof.Rows
theorem boot_bool:bootBuiltins "bool" = some (.type "bool"):=by decide +kernel
theorem boot_int:bootBuiltins "int" = some (.type "int"):=by decide +kernel
theorem boot_list:bootBuiltins "list" = some (.type "list"):=by decide +kernel
theorem boot_tuple:bootBuiltins "tuple" = some (.type "tuple"):=by decide +kernel
section
variable {X:Cx}
def rIsi (K:PySem.W.Frag)(c:V)(cv:Value):List V->Hp->VK->Prop:=fun xs H Q=>∃ x t b,xs=[x,c]/\b2q K H x t/\PySem.W.kitOne K t cv=some b/\Q (.bl b) H
theorem call_isi {c:V}{cv:Value}(hc:∀ u,a2s c u->u=cv):b1s X (.builtin "isinstance") (rIsi X.K c cv):=by
 intro pins s σ H xs us Q I r h;obtain ⟨x,t,b,rfl,ty,e,q⟩:=h;obtain ⟨u,w,rfl,ru,rw'⟩:=a2t.two r;cases hc w rw';exact isinst_ok I ru ty e fun tk=>⟨.bl b,H,I.tok tk,rfl,q⟩
theorem pe_isB {x:Str}{T:String}{p p2 pos:Pos}{e:Expr}{te:TE}(hg:Gl X "isinstance")(hm:X.mg "isinstance" = none)(he:PE X e te)(hmT:X.mg x=none)(hT:bootBuiltins x=some (.type T))(hgT:Gl X x:=by rfl)(hn:x ≠ "__name__":=by decide)(hd:(x == ("__debug__":Str)) = false:=by decide)
  (h1:starEach [e,.Name x p2] X.env=(false,eval e X.env) :: starEach [.Name x p2] X.env:=by rfl) (h2:(backTo pos (starEach [.Name x p2] X.env)).any (·.1) = false:=by rfl) :
  PE X (.Call (.Name "isinstance" p) [e,.Name x p2] [] pos) (tCB (rIsi X.K (.ty T) (.type T)) (tCons te (tCons (tC (.ty T)) tNil))):=
 a1w (call_isi fun u hu=>hu) hg hm boot_isinstance (a0a he (a0a (pe_bltn hgT hmT hT rfl hn hd) a0f) h1) (by decide) (by decide) h1 h2
end
end L2
namespace Tw
theorem pop_dec {n:Nat}(h:¬ n=0):n / 2 < n:=Nat.div_lt_self (Nat.pos_of_ne_zero h) (by decide)
def pop (n:Nat):Nat:=if h:n=0 then 0 else n % 2 + pop (n / 2)
termination_by n
decreasing_by exact pop_dec h
theorem a7j:pop 0=0:=by rw [pop]; rfl
theorem a8q (n:Nat):pop n=n % 2 + pop (n / 2):=by
 by_cases h:n=0
 ·subst h; rw [a7j]
 ·rw [pop,dif_neg h]
theorem b7v (a b:Nat):(a &&& b) % 2=(a % 2) * (b % 2):=by
 have h:=Nat.and_two_pow_sub_one_eq_mod;have ha:a % 2=a &&& 1:=(Nat.and_one_is_mod a).symm;rw [<- Nat.and_one_is_mod,<- Nat.and_one_is_mod,<- Nat.and_one_is_mod]
 have e:(a &&& b) &&& 1=(a &&& 1) &&& (b &&& 1):=by
  apply Nat.eq_of_testBit_eq;intro i;simp only [Nat.testBit_and];cases a.testBit i <;> cases b.testBit i <;> cases (1:Nat).testBit i <;> rfl
 rw [e,Nat.and_one_is_mod a,Nat.and_one_is_mod b]
 rcases Nat.mod_two_eq_zero_or_one a with h | h <;> rcases Nat.mod_two_eq_zero_or_one b with h' | h' <;> rw [h,h'] <;> rfl
theorem b0q (a b:Nat):(a &&& b) / 2=(a / 2) &&& (b / 2):=by
 apply Nat.eq_of_testBit_eq;intro i;rw [Nat.testBit_and,Nat.testBit_div_two,Nat.testBit_div_two,Nat.testBit_div_two,Nat.testBit_and]
theorem pop_pred:∀ n:Nat,0 < n->pop (n &&& (n - 1)) + 1=pop n:=by
 intro n
 induction n using Nat.strongRecOn with
 | ind n ih=>
  intro h;rw [a8q (n &&& (n - 1)),a8q n,b7v,b0q]
  rcases Nat.mod_two_eq_zero_or_one n with e | e
  ·have h2:0 < n / 2:=by omega
   have e2:(n - 1) / 2=n / 2 - 1:=by omega
   have:=ih (n / 2) (by omega) h2;rw [e2,e];omega
  ·have e2:(n - 1) / 2=n / 2:=by omega
   have e3:(n - 1) % 2=0:=by omega
   have e4:n / 2 &&& n / 2=n / 2:=Nat.and_self _;rw [e2,e3,e,e4];omega
theorem and_pred_lt {n:Nat}(h:0 < n):n &&& (n - 1) < n:=by
 have:=Nat.and_le_right (n:=n) (m:=n - 1);omega
def cnt (p:Nat->Bool):Nat->Nat
 | 0=>0
 | k + 1=>cnt p k + (p k).toNat
theorem cnt_succ' (p:Nat->Bool):∀ k,cnt p (k + 1) = (p 0).toNat + cnt (fun i=>p (i + 1)) k
 | 0=>by simp [cnt]
 | k + 1=>by
  have:=cnt_succ' p k;rw [cnt,this,cnt];omega
theorem a4c {p q:Nat->Bool}:∀ {k:Nat},(∀ i,i < k->p i=q i)->cnt p k=cnt q k
 | 0,_=>rfl
 | k + 1,h=>by rw [cnt,cnt,a4c fun i hi=>h i (by omega),h k (by omega)]
theorem b1b:∀ (k n:Nat),n < 2 ^ k->pop n=cnt n.testBit k
 | 0,n,h=>by
  have:n=0:=by simpa using h
  subst this;exact a7j
 | k + 1,n,h=>by
  rw [a8q,cnt_succ'];have h2:n / 2 < 2 ^ k:=by rw [Nat.pow_succ] at h; omega
  rw [b1b k (n / 2) h2]
  have e0:n % 2=(n.testBit 0).toNat:=by
   rw [Nat.testBit_zero]
   rcases Nat.mod_two_eq_zero_or_one n with e | e <;> rw [e] <;> rfl
  rw [e0]
  congr 1
  exact a4c fun i _=>by rw [Nat.testBit_div_two]
def bI (b:Bool):Int:=if b then 1 else 0
theorem a6g {a b k:Nat}(h1:a < 2 ^ k)(h2:b < 2 ^ k):a ^^^ b < 2 ^ k:=Nat.xor_lt_two_pow h1 h2
theorem or_div2 (a b:Nat):(a ||| b) / 2=(a / 2) ||| (b / 2):=by
 apply Nat.eq_of_testBit_eq;intro i;rw [Nat.testBit_or,Nat.testBit_div_two,Nat.testBit_div_two,Nat.testBit_div_two,Nat.testBit_or]
theorem xor_div2 (a b:Nat):(a ^^^ b) / 2=(a / 2) ^^^ (b / 2):=by
 apply Nat.eq_of_testBit_eq;intro i;rw [Nat.testBit_xor,Nat.testBit_div_two,Nat.testBit_div_two,Nat.testBit_div_two,Nat.testBit_xor]
theorem b4f (a:Nat):a % 2=(a.testBit 0).toNat:=by
 rw [Nat.testBit_zero]
 rcases Nat.mod_two_eq_zero_or_one a with e | e <;> rw [e] <;> rfl
theorem or_mod2 (a b:Nat):(a ||| b) % 2 + (a &&& b) % 2=a % 2 + b % 2:=by
 rw [b4f,b4f (a &&& b),b4f a,b4f b,Nat.testBit_or,Nat.testBit_and];cases a.testBit 0 <;> cases b.testBit 0 <;> rfl
theorem xor_mod2 (a b:Nat):(a ^^^ b) % 2 + (a &&& b) % 2=(a ||| b) % 2:=by
 rw [b4f,b4f (a &&& b),b4f (a ||| b),Nat.testBit_or,Nat.testBit_and,Nat.testBit_xor];cases a.testBit 0 <;> cases b.testBit 0 <;> rfl
theorem a4y:∀ a b:Nat,(a ||| b) + (a &&& b) = a + b:=by
 intro a
 induction a using Nat.strongRecOn with
 | ind a ih=>
  intro b
  by_cases ha:a=0
  ·subst ha; simp
  ·have q:=ih (a / 2) (by omega) (b / 2);have h1:=or_div2 a b;have h2:=b0q a b;have h3:=or_mod2 a b;rw [<- h1,<- h2] at q;omega
theorem a2x:∀ a b:Nat,(a ^^^ b) + (a &&& b) = a ||| b:=by
 intro a
 induction a using Nat.strongRecOn with
 | ind a ih=>
  intro b
  by_cases ha:a=0
  ·subst ha; simp
  ·have q:=ih (a / 2) (by omega) (b / 2);have h1:=or_div2 a b;have h2:=b0q a b;have h4:=xor_div2 a b;have h3:=xor_mod2 a b;rw [<- h1,<- h2,<- h4] at q;omega
theorem pow2_cast (n:Nat):((2:Int) ^ n) = ((2 ^ n:Nat):Int):=by push_cast; rfl
theorem emod_nat (y:Int){n:Nat}(h:0 < n):∃ k:Nat,y % (n:Int) = (k:Int)/\k < n:=by
 have h1:=Int.emod_nonneg y (show ((n:Int)) ≠ 0 by omega);have h2:=Int.emod_lt_of_pos y (show (0:Int) < (n:Int) by omega);exact ⟨(y % n).toNat,by omega,by omega⟩
end Tw
namespace L2
open PySem PySem.Spec PyProof.Rows
variable {a b p:Addr}{o:HO}{H:Hp}{is js:List Int}{K:PySem.W.Frag}{Q:VK}
theorem scal_ii (a b:Int):scal (.int a) (.int b) = true:=rfl
theorem scal_ss (a b:Str):scal (.str a) (.str b) = true:=rfl
theorem a3t (a b:Nat):Builtin.bitAnd (a:Int) (b:Int) = ((a &&& b:Nat):Int):=by
 rw [bitAnd_pp (by omega) (by omega)]; simp
theorem bitOr_nat (a b:Nat):Builtin.bitOr (a:Int) (b:Int) = ((a ||| b:Nat):Int):=by
 have h:Builtin.bitOr (a:Int) (b:Int) = a + b - ((a &&& b:Nat):Int):=by rw [bitOr_and,a3t]
 have e:=Tw.a4y a b;omega
theorem a8m (a b:Nat):Builtin.bitXor (a:Int) (b:Int) = ((a ^^^ b:Nat):Int):=by
 have h:Builtin.bitXor (a:Int) (b:Int) = ((a ||| b:Nat):Int) - ((a &&& b:Nat):Int):=by
  show Builtin.bitOr _ _ - Builtin.bitAnd _ _=_;rw [bitOr_nat,a3t]
 have e:=Tw.a2x a b;omega
theorem bitAnd_bit (x i:Nat):Builtin.bitAnd ((x:Int) / 2 ^ i) 1=Tw.bI (x.testBit i):=by
 have e:((x:Int) / 2 ^ i) = ((x / 2 ^ i:Nat):Int):=by push_cast; rfl
 have e1:(1:Int) = ((1:Nat):Int):=rfl;rw [e,e1,a3t,Nat.and_one_is_mod];rw [Nat.testBit_eq_decide_div_mod_eq];unfold Tw.bI
 rcases Nat.mod_two_eq_zero_or_one (x / 2 ^ i) with h | h <;> rw [h] <;> rfl
theorem bitAnd_pred {n:Nat}(h:0 < n):Builtin.bitAnd (n:Int) ((n:Int) - 1) = ((n &&& (n - 1):Nat):Int):=by
 have e:((n:Int) - 1) = ((n - 1:Nat):Int):=by omega
 rw [e,a3t]
theorem SqT.upd {K:PySem.W.Frag}{H:Hp}{p a:Addr}{o:HO}{xs:List V}(h:H p=none)(s:SqT K H a xs):SqT K (upd H p o) a xs:=(a0e h o).tup s
theorem a1u.updR {H1:Hp}(s:a1u H H1)(h:H1 p=none):a1u H (upd H1 p o):=s.trans (a0e h o)
theorem upd_get {u:HO}(h:H p=none)(s:H a=some u):upd H p o a=some u:=a0e h o a u s
section
variable {K:PySem.W.Frag}{H:Hp}{Q:VK}{a b:Addr}{i j:Int}{x y:Str}{p q:Bool}
theorem rEq_i:rEq (.int i) (.int j) H Q=Q (.bl (decide (i=j))) H:=by
 unfold rEq;rw [scal_ii];simp only [V.int.injEq,true_and]
theorem rNe_i:rNe (.int i) (.int j) H Q=Q (.bl (!decide (i=j))) H:=by
 unfold rNe;rw [scal_ii];simp only [V.int.injEq,true_and]
theorem rEq_s:rEq (.str x) (.str y) H Q=Q (.bl (decide (x=y))) H:=by
 unfold rEq;rw [scal_ss];simp only [V.str.injEq,true_and]
end
theorem cxOf_K {CX:CXT}{P:Program}{w:World}{mg:Str->Option Value}{base:Heap}{N:List Str}{qual:Str}{scope:Scope}{f:Addr}{cd:Value}{A:Around}{outer:List Env}{s:Shared}{E:XK}:(cxOf CX P w K mg base N qual scope f cd A outer s H E).K=K:=rfl
theorem cpow_n {i:Int}{n:Nat}(h:n <= 1000)(h2:i.natAbs < 2 ^ 64:=by decide):CPow i (n:Int):=⟨by omega,by omega,h2⟩
theorem a6r (is:List Int):SeqAt.shaped (.tuple (is.map PyData.int)) = true:=by
 simp [SeqAt.shaped,PyData.canLay0,PyData.depth,PySem.W.ke_canLayAll0,PySem.W.ke_depthAll]
theorem b0j {K:PySem.W.Frag}{H:Hp}:∀ is:List Int,DVs K H (is.map V.int) (is.map PyData.int)
 | []=>.nil
 | _ :: r=>.cons (.int _) (b0j r)
theorem b8b:∀ is js:List Int,PyData.eqvAll (is.map PyData.int) (js.map PyData.int) = decide (is=js)
 | [],[]=>by simp [PyData.eqvAll]
 | [],_ :: _=>by simp [PyData.eqvAll]
 | _ :: _,[]=>by simp [PyData.eqvAll]
 | a :: r,b :: t=>by
  simp only [List.map_cons,PyData.eqvAll,PyData.eqv,b8b r t]
  by_cases h:a=b <;> by_cases h':r=t <;> simp [h,h']
theorem rEqD_ints (ha:SqT K H a (is.map V.int))(hb:SqT K H b (js.map V.int))(q:Q (.bl (decide (is=js))) H):rEqD K (.ref a) (.ref b) H Q:=
 ⟨_,_,.tup ha (b0j is),.tup hb (b0j js),a6r is,a6r js,by rw [PyData.eqv,b8b]; exact q⟩
theorem rNeD_ints (ha:SqT K H a (is.map V.int))(hb:SqT K H b (js.map V.int))(q:Q (.bl (!decide (is=js))) H):rNeD K (.ref a) (.ref b) H Q:=
 ⟨_,_,.tup ha (b0j is),.tup hb (b0j js),a6r is,a6r js,by rw [PyData.eqv,b8b]; exact q⟩
section
variable {K:PySem.W.Frag}{H:Hp}{Q:VK}{a b:Addr}{i1 i2 i3 j1 j2 j3:Int}
theorem rEqD_2 (ha:SqT K H a [.int i1,.int i2])(hb:SqT K H b [.int j1,.int j2])(q:Q (.bl (decide ([i1,i2] = [j1,j2]))) H):rEqD K (.ref a) (.ref b) H Q:=rEqD_ints (is:=[i1,i2]) (js:=[j1,j2]) ha hb q
theorem rNeD_2 (ha:SqT K H a [.int i1,.int i2])(hb:SqT K H b [.int j1,.int j2])(q:Q (.bl (!decide ([i1,i2] = [j1,j2]))) H):rNeD K (.ref a) (.ref b) H Q:=rNeD_ints (is:=[i1,i2]) (js:=[j1,j2]) ha hb q
end
end L2
namespace L2
open PySem PySem.Spec PyProof.Rows
variable {H:Hp}{xs:List V}{σ:St}{g:TG}{tb:TS}{D:b0y}
section
variable {K:PySem.W.Frag}{H:Hp}{Q:VK}{R:Bool->Hp->Prop}{D:b0y}{σ:St}{t u:TS}{te ta tb:TE}{tt tu:TT}{tA:TA}{g:TG}{gs:TGs}{v w:V}{a b:Addr}{i j:Int}{p q:Bool}{x y:Str}{n m k:Nat}
theorem st_seq (h:t { D with nx:=u D } σ H):tSeq t u D σ H:=h
theorem st_next (h:D.nx σ H):tNext D σ H:=h
theorem st_asg (h:te σ H fun x H1=>g x σ H1 D.nx):tAsg te g D σ H:=h
theorem st_ret (h:te σ H D.rt):tRet te D σ H:=h
theorem st_drop (h:te σ H fun _ H1=>D.nx σ H1):tDrop te D σ H:=h
theorem st_if (h:tt σ H fun b H1=>if b=true then t D σ H1 else u D σ H1):tIfS tt t u D σ H:=h
theorem st_gname {P:St->Hp->Prop}(h:P (σ.set n (some v)) H):gName n v σ H P:=h
theorem st_gtup {P:St->Hp->Prop}(s:SqT K H a xs)(l:xs.length=n)(h:gs xs σ H P):gTup K n gs (.ref a) σ H P:=⟨a,xs,rfl,s,l,h⟩
theorem st_gcons {P:St->Hp->Prop}{r:List V}(h:g v σ H fun σ' H'=>gs r σ' H' P):gCons g gs (v :: r) σ H P:=⟨v,r,rfl,h⟩
theorem st_gnil {P:St->Hp->Prop}(h:P σ H):gNil [] σ H P:=⟨rfl,h⟩
theorem st_c (h:Q v H):tC v σ H Q:=h
theorem st_var (e:σ[n]? = some (some v))(h:Q v H):tVar n σ H Q:=⟨v,e,h⟩
theorem st_op {r:R2}(h:ta σ H fun x H1=>tb σ H1 fun y H2=>r x y H2 Q):tOp r ta tb σ H Q:=h
theorem st_un {r:V->Hp->VK->Prop}(h:ta σ H fun x H1=>r x H1 Q):tUn r ta σ H Q:=h
theorem st_test (h:te σ H fun x H'=>∃ k,x=.bl k/\R k H'):tTest te σ H R:=h
theorem st_tB (h:te σ H fun x H'=>∃ k,x=.bl k/\R k H'):tB te σ H R:=h
theorem st_bl {P:Bool->Prop}(h:P p):∃ k,V.bl p=V.bl k/\P k:=⟨p,rfl,h⟩
theorem st_and (h:tt σ H fun c H1=>if c=true then tu σ H1 R else R false H1):tAnd tt tu σ H R:=h
theorem st_or (h:tt σ H fun c H1=>if c=true then R true H1 else tu σ H1 R):tOr tt tu σ H R:=h
theorem st_not (h:tt σ H fun c H1=>R (!c) H1):tNot tt σ H R:=h
theorem st_andV (h:ta σ H fun x H1=>∃ c,x=.bl c/\if c=true then tb σ H1 Q else Q (.bl false) H1):tAndV ta tb σ H Q:=h
theorem st_notV (h:ta σ H fun x H1=>∃ c,x=.bl c/\Q (.bl (!c)) H1):tNotV ta σ H Q:=h
theorem st_call {sp:Sp}{dvs:List V}{E:XK}(h:tA σ H fun vs H1=>sp (vs ++ dvs) H1 Q E):tCall sp dvs E tA σ H Q:=h
theorem st_cb {r:List V->Hp->VK->Prop}(h:tA σ H fun vs H1=>r vs H1 Q):tCB r tA σ H Q:=h
theorem st_cons {P:List V->Hp->Prop}(h:te σ H fun x H1=>tA σ H1 fun xs H2=>P (x :: xs) H2):tCons te tA σ H P:=h
theorem st_nil {P:List V->Hp->Prop}(h:P [] H):tNil σ H P:=h
theorem st_tup (h:tA σ H fun xs H1=>xs.length <= sizeLine/\∀ p,H1 p=none->Q (.ref p) (upd H1 p (.tup xs))):tTup tA σ H Q:=h
theorem st_lst (h:tA σ H fun xs H1=>xs.length <= sizeLine/\∀ p,H1 p=none->Q (.ref p) (upd H1 p (.lst xs))):tLst tA σ H Q:=h
theorem st_size {A:Prop}(h:Nat.ble xs.length 1000=true)(q:A):xs.length <= sizeLine/\A:=⟨Nat.le_of_lt (a2j (Nat.le_of_ble_eq_true h)),q⟩
theorem st_part {P:Option Int->Hp->Prop}(h:te σ H fun x H1=>∃ i,x=.int i/\P (some i) H1):tPart te σ H P:=h
theorem st_int {P:Int->Prop}(h:P i):∃ k,V.int i=V.int k/\P k:=⟨i,rfl,h⟩
theorem st_nopart {P:Option Int->Hp->Prop}(h:P none H):tNoPart σ H P:=h
theorem st_sl {r:V->Option Int->Option Int->Hp->VK->Prop}{tl th:TO}(h:te σ H fun x H1=>tl σ H1 fun l H2=>th σ H2 fun u H3=>r x l u H3 Q):tSl r te tl th σ H Q:=h
theorem st_slL {lo hi:Option Int}(s:SqL K H a xs)(h:∀ p,H p=none->Q (.ref p) (upd H p (.lst (cutV xs lo hi)))):rSlL K (.ref a) lo hi H Q:=⟨a,xs,rfl,s,h⟩
theorem b8a {g:Int->Int->V}(h:Q (g i j) H):rI0 g (.int i) (.int j) H Q:=⟨i,j,rfl,rfl,h⟩
theorem st_i {C:Int->Int->Prop}{g:Int->Int->V}(c:C i j)(h:Q (g i j) H):rI C g (.int i) (.int j) H Q:=⟨i,j,rfl,rfl,c,h⟩
theorem st_u {g:Int->V}(h:Q (g i) H):rU g (.int i) H Q:=⟨i,rfl,h⟩
theorem st_eqi (h:Q (.bl (decide (i=j))) H):rEq (.int i) (.int j) H Q:=by rw [rEq_i]; exact h
theorem st_nei (h:Q (.bl (!decide (i=j))) H):rNe (.int i) (.int j) H Q:=by rw [rNe_i]; exact h
theorem st_eqs (h:Q (.bl (decide (x=y))) H):rEq (.str x) (.str y) H Q:=by rw [rEq_s]; exact h
theorem st_ixT (s:SqT K H a xs)(e:atI xs i=some v)(h:Q v H):rIxT K (.ref a) (.int i) H Q:=⟨a,xs,i,v,rfl,rfl,s,e,h⟩
theorem st_ixL (s:SqL K H a xs)(e:atI xs i=some v)(h:Q v H):rIxL K (.ref a) (.int i) H Q:=⟨a,xs,i,v,rfl,rfl,s,e,h⟩
theorem st_andN (h:Q (.int ((n &&& m:Nat):Int)) H):rI0 (fun i j=>.int (Builtin.bitAnd i j)) (.int (n:Int)) (.int (m:Int)) H Q:=b8a (by rw [a3t]; exact h)
theorem st_orN (h:Q (.int ((n ||| m:Nat):Int)) H):rI0 (fun i j=>.int (Builtin.bitOr i j)) (.int (n:Int)) (.int (m:Int)) H Q:=b8a (by rw [bitOr_nat]; exact h)
theorem st_xorN (h:Q (.int ((n ^^^ m:Nat):Int)) H):rI0 (fun i j=>.int (Builtin.bitXor i j)) (.int (n:Int)) (.int (m:Int)) H Q:=b8a (by rw [a8m]; exact h)
theorem st_bit (h:Q (.int (Tw.bI (n.testBit k))) H):rI0 (fun i j=>.int (Builtin.bitAnd i j)) (.int ((n:Int) / 2 ^ k)) (.int 1) H Q:=b8a (by rw [bitAnd_bit]; exact h)
theorem st_shrN (h:Q (.int (i / 2 ^ k)) H):rI (fun _ j=>0 <= j) (fun i j=>.int (i / 2 ^ j.toNat)) (.int i) (.int (k:Int)) H Q:=st_i (by omega) (by rw [Int.toNat_natCast]; exact h)
theorem st_shl1 (c:k <= 1000)(h:Q (.int ((2 ^ k:Nat):Int)) H):rI CPow (fun i j=>.int (i * 2 ^ j.toNat)) (.int 1) (.int (k:Int)) H Q:=st_i (cpow_n c) (by rw [Int.toNat_natCast,Int.one_mul,Tw.pow2_cast]; exact h)
theorem st_modN (c:0 < n)(h:∀ k:Nat,i % (n:Int) = (k:Int)->k < n->Q (.int (k:Int)) H):rI (fun _ j=>0 < j) (fun i j=>.int (i % j)) (.int i) (.int (n:Int)) H Q:=st_i (by omega) (by
 obtain ⟨k,e,l⟩:=Tw.emod_nat i c
 rw [e]; exact h k e l)
theorem st_isi {c:V}{cv t:Value}(ty:b2q K H v t)(e:PySem.W.kitOne K t cv=some p)(h:Q (.bl p) H):rIsi K c cv [v,c] H Q:=⟨v,t,p,rfl,ty,e,h⟩
end
theorem iteD {c:Prop} [Decidable c]{A B:Prop}(h1:c->A)(h2:¬ c->B):if decide c=true then A else B:=by
 by_cases h:c
 ·rw [decide_eq_true h]; exact iteT (h1 h)
 ·rw [decide_eq_false h]; exact iteF (h2 h)
theorem iteN {c:Prop} [Decidable c]{A B:Prop}(h1:¬ c->A)(h2:c->B):if (!decide c) = true then A else B:=by
 by_cases h:c
 ·rw [decide_eq_true h]; exact iteF (h2 h)
 ·rw [decide_eq_false h]; exact iteT (h1 h)
theorem for_range0 {n:Nat}(Pv:Nat->St->Hp->Prop)(h0:Pv 0 σ H)
  (hs:∀ i σ H,i < n->Pv i σ H->g (.int (i:Int)) σ H fun σ2 H2=>tb { D with nx:=Pv (i + 1),ct:=Pv (i + 1),bk:=D.nx } σ2 H2) (hd:∀ σ H,Pv n σ H->D.nx σ H) :
  ∃ W:Nat->Nat->St->Hp->Prop,(∃ m,W 0 m σ H)/\∀ i m σ H,W i m σ H->
   ((Itr 0 n).stop i H/\D.nx σ H)\/((Itr 0 n).go i H/\∃ N:St->Hp->Prop,(∀ σ' H',N σ' H'->∃ m',m' < m/\W (i + 1) m' σ' H')/\∀ x H',(Itr 0 n).yld i H x H'->g x σ H' fun σ2 H2=>tb { D with nx:=N,ct:=N,bk:=D.nx } σ2 H2):=
 for_range Pv h0 (fun i σ H hi hp=>by rw [Int.zero_add]; exact hs i σ H hi hp) hd
theorem a4g {ta:TE}{n:Nat}(hn:n <= 1000000)(e:∀ P:V->Hp->Prop,P (.int (n:Int)) H->ta σ H P)(Pv:Nat->St->Hp->Prop)(h0:Pv 0 σ H)
  (hs:∀ i σ H,i < n->Pv i σ H->g (.int (i:Int)) σ H fun σ2 H2=>tb { D with nx:=Pv (i + 1),ct:=Pv (i + 1),bk:=D.nx } σ2 H2) (hd:∀ σ H,Pv n σ H->D.nx σ H):tFor (iRng1 (tCons ta tNil)) g tb D σ H:=
 e _ ⟨(n:Int),rfl,by omega,by omega,for_range0 Pv h0 hs hd⟩
theorem at_i {cs:List Int}{i:Nat}(h:i < cs.length):∃ c,atI (cs.map V.int) (i:Int) = some (.int c):=
 ⟨cs[i],b3q (by rw [List.getElem?_map,List.getElem?_eq_getElem h]; rfl)⟩
theorem one_mod (c:Int)(d:Int)(hd:0 < d)(hd2:d <= 1000):∃ n:Nat,1 + c % d=(n:Int)/\0 < n/\(n:Int) <= d:=by
 have h1:=Int.emod_nonneg c (show d ≠ 0 by omega);have h2:=Int.emod_lt_of_pos c hd;exact ⟨(1 + c % d).toNat,by omega,by omega,by omega⟩
theorem iteNT {A B:Prop}(h:B):if (!true) = true then A else B:=iteF h
theorem iteNF {A B:Prop}(h:A):if (!false) = true then A else B:=iteT h
end L2
namespace L2
open PySem PySem.Spec PyProof.Rows
variable {X:Cx}{env:Env}{H:Hp}{sc scope:Scope}{s:Shared}{σ:St}{y:Str}{te:TE}{tt:TT}{Q:VK}
def b7r (env:Env):List (Str × NameKind)->List (Str × Addr)->List (Str × Addr)
 | [],acc=>acc
 | (n,k) :: r,acc=>if (k == NameKind.free) = true then b7r env r ((n,(env.cells.lookup n).getD 0) :: acc) else b7r env r acc
theorem clGo_eq (env:Env):∀ (names:List (Str × NameKind)) (acc:List (Str × Addr)),(∀ p ∈ names,p.2=.free->∃ c,env.cells.lookup p.1=some c)->
  (forIn names acc fun x r=>match x with
   | (name,kind)=>if (kind == NameKind.free) = true then (do let a <- cellOf env name; pure (ForInStep.yield ((name,a) :: r)):Sem _) else pure (ForInStep.yield r)) = (pure (b7r env names acc):Sem _)
 | [],_,_=>rfl
 | (n,k) :: r,acc,h=>by
  rw [List.forIn_cons]
  by_cases hk:k=NameKind.free
  ·subst hk;obtain ⟨c,hc⟩:=h (n,.free) List.mem_cons_self rfl;have e:cellOf env n=pure c:=by unfold cellOf; rw [hc]
   simp only [beq_self_eq_true,if_true,e,pure_bind,b7r,hc,Option.getD_some];exact clGo_eq env r _ fun p hp=>h p (List.mem_cons_of_mem _ hp)
  ·have hb:(k == NameKind.free) = false:=by simpa using hk
   simp only [hb,Bool.false_eq_true,if_false,pure_bind,b7r];exact clGo_eq env r _ fun p hp=>h p (List.mem_cons_of_mem _ hp)
theorem b6g (h:∀ p ∈ scope.names,p.2=.free->∃ c,env.cells.lookup p.1=some c):closureFor scope env=pure (b7r env scope.names []):=by
 unfold closureFor;have e:=clGo_eq env scope.names [] h;dsimp only;rw [e];rfl
theorem a6y (env:Env){y:Str}:∀ (names:List (Str × NameKind)) (acc:List (Str × Addr)),(∀ p ∈ names,p.2=.free->∃ c,env.cells.lookup p.1=some c)->
  ∀ c,(b7r env names acc).lookup y=some c->acc.lookup y=some c\/(env.cells.lookup y=some c)
 | [],_,_,_,e=>.inl e
 | (n,k) :: r,acc,h,c,e=>by
  rw [b7r] at e
  by_cases hk:(k == NameKind.free) = true
  ·rw [if_pos hk] at e;have hk':k=NameKind.free:=by simpa using hk
   obtain ⟨c',hc'⟩:=h (n,k) List.mem_cons_self hk'
   rcases a6y env r _ (fun p hp=>h p (List.mem_cons_of_mem _ hp)) c e with q | q
   ·rw [List.lookup_cons] at q
    cases hb:y == n with
    | true=>
     rw [hb] at q;have hb':y=n:=eq_of_beq hb;subst hb';have hc'':env.cells.lookup y=some c':=hc';rw [hc'',Option.getD_some] at q;rw [hc''];exact .inr q
    | false=>rw [hb] at q; exact .inl q
   ·exact .inr q
  ·rw [if_neg hk] at e;exact a6y env r _ (fun p hp=>h p (List.mem_cons_of_mem _ hp)) c e
theorem a8s (env:Env){y:Str}:∀ (names:List (Str × NameKind)) (acc:List (Str × Addr)),(y,NameKind.free) ∈ names\/(∃ c,acc.lookup y=some c)->∃ c,(b7r env names acc).lookup y=some c
 | [],_,h=>h.elim (fun z=>nomatch z) id
 | (n,k) :: r,acc,h=>by
  rw [b7r]
  have up:∀ v:Addr,(∃ c,acc.lookup y=some c)->∃ c,((n,v) :: acc).lookup y=some c:=fun v ⟨c,e⟩=>by
   rw [List.lookup_cons]
   cases hb:y == n with
   | true=>exact ⟨v,rfl⟩
   | false=>exact ⟨c,e⟩
  by_cases hk:(k == NameKind.free) = true
  ·rw [if_pos hk];refine a8s env r _ ?_
   rcases h with h | h
   ·rcases List.mem_cons.mp h with z | z
    ·cases z;exact .inr ⟨(env.cells.lookup y).getD 0,by rw [List.lookup_cons,beq_self_eq_true]⟩
    ·exact .inl z
   ·exact .inr (up _ h)
  ·rw [if_neg hk];refine a8s env r _ ?_
   rcases h with h | h
   ·rcases List.mem_cons.mp h with z | z
    ·cases z;exact absurd rfl hk
    ·exact .inl z
   ·exact .inr h
def rlb (env:Env)(n:Str)(k:NameKind):NameKind:=if (k == .free && env.scope.kind == .function && env.kindOf n == some .cell) = true then .cell else k
theorem a9c (env:Env)(y:Str):∀ names:List (Str × NameKind),
  (names.map fun (n,k)=>if (k == NameKind.free && env.scope.kind == .function && env.kindOf n == some .cell) = true then (n,NameKind.cell) else (n,k)).lookup y=(names.lookup y).map (rlb env y)
 | []=>rfl
 | (n,k) :: r=>by
  have e:(if (k == NameKind.free && env.scope.kind == .function && env.kindOf n == some .cell) = true then (n,NameKind.cell) else (n,k)) = (n,rlb env n k):=by
   unfold rlb; split <;> rfl
  rw [List.map_cons];show List.lookup y ((if (k == NameKind.free && env.scope.kind == .function && env.kindOf n == some .cell) = true then (n,NameKind.cell) else (n,k)) :: _) = _;rw [e,List.lookup_cons,List.lookup_cons]
  cases hb:y == n with
  | true=>have:=eq_of_beq hb; subst this; rfl
  | false=>exact a9c env y r
theorem a1p (scope:Scope)(env:Env)(y:Str):(relabel scope env).names.lookup y=(scope.names.lookup y).map (rlb env y):=a9c env y scope.names
theorem mem_of_lookup {α β:Type} [BEq α] [LawfulBEq α]{y:α}{k:β}:∀ {l:List (α × β)},l.lookup y=some k->(y,k) ∈ l
 | (n,j) :: r,e=>by
  rw [List.lookup_cons] at e
  cases hb:y == n with
  | true=>rw [hb] at e; have:=eq_of_beq hb; subst this; cases e; exact List.mem_cons_self
  | false=>rw [hb] at e; exact List.mem_cons_of_mem _ (mem_of_lookup e)
structure a3r (sc:Scope)(x:Str)(scope:Scope):Prop where
 kind:scope.kind=.function
 cell:∀ y ∈ scope.names,y.2 ≠ .cell
 own:scope.names.lookup x=some .local
 loc:∀ y ∈ scope.names,y.2=.local->y.1=x\/y.1=(".0":Str)
 nam:∀ y ∈ scope.names,y.2=.local->scope.names.lookup y.1=some .local
 free:∀ y ∈ scope.names,y.2=.free->sc.names.lookup y.1=some .cell\/sc.names.lookup y.1=some .free
 two:∀ y ∈ scope.names,y.2=.free->y.1 ≠ x
def Cx.comp (X:Cx)(M:List Str)(scope:Scope)(x:Str)(C:Addr)(s:Shared)(H:Hp)(ex:List Addr):Cx:=
 { X with N:=x :: M,s₀:=s,H₀:=H,env:=compEnvC scope (b7r X.env scope.names []) C X.env,outer:=X.stack,ex:=ex,fn:=fun _=>false,pn:=[],xe:=fun _ _=>False }
section
variable {X:Cx}{M:List Str}{pins:List (Addr × Obj)}{σ:St}{H:Hp}{s:Shared}{scope:Scope}{x:Str}
theorem a3r.has (S:a3r X.env.scope x scope)(ok:X.Ok):∀ p ∈ scope.names,p.2=.free->∃ c,X.env.cells.lookup p.1=some c:=fun p hp e=>ok.has p.1 (S.free p hp e)
theorem a3r.cells (S:a3r X.env.scope x scope)(ok:X.Ok){y:Str}{c:Addr}(e:(b7r X.env scope.names []).lookup y=some c):X.env.cells.lookup y=some c:=by
 rcases a6y X.env scope.names [] (S.has ok) c e with z | z
 ·cases z
 ·exact z
theorem a3r.sees (S:a3r X.env.scope x scope)(hy:(relabel scope X.env).names.lookup y ≠ some .local)(hv:Vis (relabel scope X.env) y):(y,NameKind.free) ∈ scope.names/\((relabel scope X.env).names.lookup y=some .cell\/(relabel scope X.env).names.lookup y=some .free):=by
 unfold Vis at hv;rw [a1p] at hv ⊢
 cases e:scope.names.lookup y with
 | none=>rw [e] at hv; rcases hv with z | z | z <;> cases z
 | some k=>
  have hm:=mem_of_lookup e;rw [e] at hv
  have hk:k=.free:=by
   by_cases hf:k=.free
   ·exact hf
   ·have hr:rlb X.env y k=k:=by
     unfold rlb;have:(k == NameKind.free) = false:=by simpa using hf
     rw [this]; rfl
    rw [Option.map_some,hr] at hv
    rcases hv with z | z | z
    ·rw [a1p,e,Option.map_some,hr] at hy;exact absurd z hy
    ·exact absurd (Option.some.inj z) (S.cell _ hm)
    ·exact Option.some.inj z
  subst hk;refine ⟨hm,?_⟩;rw [Option.map_some];unfold rlb
  split
  ·exact .inl rfl
  ·exact .inr rfl
theorem a3r.ok (S:a3r X.env.scope x scope)(I:Inv X pins σ H s){C:Addr}(hC:s.heap.objs.size <= C){fp:List Addr}(hf:∀ b ∈ fp,FpOk X pins H b)(hl:∀ b ∈ fp,b < s.heap.objs.size):(X.comp M scope x C s H fp).Ok where
 mod:=I.ok.mod
 kind:=S.kind
 glob:=I.ok.glob
 blt:=I.ok.blt
 above:=hC
 inj:=fun y z c e1 e2=>I.ok.inj y z c (S.cells I.ok e1) (S.cells I.ok e2)
 has:=fun y hy=>by
  have hv:Vis (relabel scope X.env) y:=.inr hy
  have hne:(relabel scope X.env).names.lookup y ≠ some .local:=fun e=>by
   have hy':(relabel scope X.env).names.lookup y=some .cell\/(relabel scope X.env).names.lookup y=some .free:=hy;rw [e] at hy'
   rcases hy' with q | q <;> cases q
  exact a8s X.env scope.names [] (.inl (S.sees hne hv).1)
 cab:=fun _ _ z=>nomatch z
 hd:=I.ok.hd
 frames:=I.ok.frames
 stk:=.inl rfl
 exf:=fun b hb=>⟨fun z=>by
   have h1:=hl b hb;have z':b=C:=z;rw [z'] at h1
   exact Nat.not_le.mpr h1 hC,fun y c e=>(hf b hb).2.2.2.2.1 y c (S.cells I.ok e)⟩
 bs:=I.bs
 bsz:=Nat.le_trans I.ok.bsz I.sz
 noex:=fun b o e hb=>by
  rcases (hf b hb).2.2.2.1 with z | z
  ·exact I.ok.noex b o e z
  ·have h1:=Heap.lt_size e;have h2:=I.ok.bsz;exact absurd (Nat.lt_of_lt_of_le (Nat.lt_of_lt_of_le h1 h2) z) (Nat.lt_irrefl _)
 exfs:=fun b hb z=>by
  rcases List.mem_cons.mp (I.stkSub b z) with q | q
  ·exact (hf b hb).2.1 q
  ·exact (hf b hb).2.2.1 q
 funs:=I.stack
 frf:=I.stkFree
theorem a3r.inv (S:a3r X.env.scope x scope)(hx:x ∉ M)(h0:(".0":Str) ∉ M)(hlen:M.length=X.N.length)(hM:∀ (j:Nat) y,M[j]? = some y->X.N[j]? = some y\/scope.names.lookup y=none)(I:Inv X pins σ H s){C:Addr}(hC:s.heap.objs.size <= C){fp:List Addr}(hf:∀ b ∈ fp,FpOk X pins H b)(hl:∀ b ∈ fp,b < s.heap.objs.size){h1:Heap}{t1:Nat}
  (old:∀ b o,s.heap.get? b=some o->h1.get? b=some o) {m:Str->Option Value} (ns:h1.Ns C m):Inv (X.comp M scope x C s H fp) [] (none :: σ) H { s with heap:=h1,toks:=t1 } where
 ok:=S.ok I hC hf hl
 os:=rfl
 bare:=I.bare
 base:=Un.kept old
 loc:=by
  refine ⟨m,ns,fun i y v e1 e2 hv=>?_⟩
  cases i with
  | zero=>cases e2
  | succ j=>
   have e1':M[j]? = some y:=by simpa [Cx.comp] using e1
   have e2':σ[j]? = some (some v):=by simpa using e2
   by_cases hy:(relabel scope X.env).names.lookup y=some .local
   ·exfalso;rw [a1p] at hy
    cases e:scope.names.lookup y with
    | none=>rw [e] at hy; cases hy
    | some k=>
     rw [e,Option.map_some] at hy
     have hk:k=.local:=by
      have hy':=Option.some.inj hy;unfold rlb at hy'
      split at hy'
      ·cases hy'
      ·exact hy'
     rcases S.loc _ (mem_of_lookup e) hk with z | z
     ·have z':y=x:=z;subst z'; exact hx (List.mem_of_getElem? e1')
     ·have z':y=(".0":Str):=z;subst z'; exact h0 (List.mem_of_getElem? e1')
   ·obtain ⟨hm,hk⟩:=S.sees hy hv;obtain ⟨m0,_,hl0⟩:=I.loc;have hx0:Vis X.env.scope y:=.inr (S.free _ hm rfl)
    have e1':X.N[j]? = some y:=by
     rcases hM j y e1' with z | z
     ·exact z
     ·exfalso;unfold Vis at hv;have hv':(relabel scope X.env).names.lookup y=some .local\/(relabel scope X.env).names.lookup y=some .cell\/(relabel scope X.env).names.lookup y=some .free:=hv;rw [a1p,z] at hv'
      rcases hv' with q | q | q <;> cases q
    obtain ⟨u,r,l⟩:=hl0 j y v e1' e2' hx0;refine ⟨u,r,.inr ⟨hk,?_⟩⟩;obtain ⟨c,hc⟩:=a8s X.env scope.names [] (.inl hm);refine ⟨c,hc,?_⟩;have hc0:=S.cells I.ok hc
    rcases l with ⟨k0,_⟩ | ⟨_,c0,e0,q0⟩
    ·rcases S.free _ hm rfl with z | z
     ·have k0':X.env.scope.names.lookup y=some .local:=k0;rw [z] at k0'; cases k0'
     ·have k0':X.env.scope.names.lookup y=some .local:=k0;rw [z] at k0'; cases k0'
    ·rw [hc0] at e0; cases e0;obtain ⟨o,ho,hd⟩:=q0;exact ⟨o,old _ _ ho,hd⟩
 cell:=fun y c e=>by
  obtain ⟨v,o,ho,hd⟩:=I.cell y c (S.cells I.ok e);exact ⟨v,o,old _ _ ho,hd⟩
 free:=I.hok.fresh hC
 freeC:=fun y c e=>I.freeC y c (S.cells I.ok e)
 pin:=fun p hp=>by cases hp
 hok:=I.hok.kept old
 len:=by simp [Cx.comp,I.len,hlen]
end
def PIfs (X:Cx)(ifs:List Expr)(t:TT):Prop:=
 ∀ (pins:List (Addr × Obj)) (s:Shared) (σ:St) (H:Hp) (Q:Bool->Hp->Prop),Inv X pins σ H s->t σ H Q->
  wpAny (model X.prog X.w) X.A (forIn ifs true fun c r=>if r=true then do let ok <- isTrue c X.env (eval c X.env); pure (ForInStep.yield ok) else pure (ForInStep.yield r)) (TP X pins σ Q) X.xe s
def tYes:TT:=fun _ H Q=>Q true H
theorem a5s :PIfs X [] tYes:=fun _ _ _ H _ I h=>wpAny_tests_nil ⟨H,I,h⟩
theorem b6u {c:Expr}{t:TT}(h:PT X c t):PIfs X [c] t:=fun pins s σ H Q I q=>wpAny_tests_one (h pins s σ H Q I q)
theorem b2c {prog:Program}{w:World}{A:Around}{R:Result->Shared->Prop}{elt target iter:Expr}{ifs:List Expr}{scope:Scope}{pos:Pos}{it acc:Value}(I:Nat->Shared->Prop)
  (a2h:∀ n s,I n s->wpAny (model prog w) A (pyNext it) (fun r s₁=>match r with
   | none=>R (.ok .next) s₁
   | some v=>wpAny (model prog w) A (letOwnedTupleGo target it v) (fun _ s₀=>wpAny (model prog w) A (assign target env v) (fun _ s₂=>
     wpAny (model prog w) A (forIn ifs true fun c r=>if r=true then do let ok <- isTrue c env (eval c env); pure (ForInStep.yield ok) else pure (ForInStep.yield r)) (fun ok s₃=>
      if ok=true then wpAny (model prog w) A (eval elt env) (fun x s₄=>
       wpAny (model prog w) A (call (.builtin "list.append") [acc,x]) (fun _ s₅=>∃ m,m < n/\I m s₅) (fun _ _=>False) s₄) (fun _ _=>False) s₃
      else ∃ m,m < n/\I m s₃) (fun _ _=>False) s₂) (fun _ _=>False) s₀) (fun _ _=>False) s₁) (fun _ _=>False) s)
  (n:Nat) (h:I n s):codeAny (model prog w) A (.compLoop (.ListComp elt [⟨target,iter,ifs,0⟩] scope pos) 0 it acc env) R s:=by
 refine codeAny_loop rfl I (fun n s hI=>?_) n h;show wpAny _ A ((compTurn (.ListComp elt [⟨target,iter,ifs,0⟩] scope pos) 0 it acc env).onRaise (fun x=>do noteFrame x env; theTreesLotGoes x)) _ _ s;refine wpAny_noted ?_;rw [compTurn_list];refine wpAny_bind (wpAny_standAt (wpAny_bind (wpAny_mono (a2h n s hI) (fun r s₁ h₁=>?_) fun _ _ h'=>h'.elim)))
 cases r with
 | none=>exact wpAny_pure h₁
 | some v=>
  refine wpAny_bind (wpAny_mono h₁ (fun _ s₀ h₀=>?_) fun _ _ h'=>h'.elim);refine wpAny_bind (wpAny_mono h₀ (fun _ s₂ h₂=>wpAny_bind (wpAny_mono h₂ (fun ok s₃ h₃=>?_) fun _ _ h'=>h'.elim)) fun _ _ h'=>h'.elim)
  cases ok with
  | false=>exact wpAny_pure ⟨rfl,h₃⟩
  | true=>
   exact wpAny_bind (wpAny_bind (wpAny_mono h₃ (fun x s₄ h₄=>wpAny_bind (wpAny_mono h₄ (fun _ s₅ h₅=>wpAny_pure (wpAny_pure ⟨rfl,h₅⟩)) fun _ _ h'=>h'.elim)) fun _ _ h'=>h'.elim))
def tComp (wi:TI)(tt:TT)(te:TE):TE:=fun σ H Q=>wi σ H fun J H1=>∃ W:Nat->Nat->List V->Hp->Prop,(∃ m,W 0 m [] H1)/\∀ i m ys H,W i m ys H->
 (J.stop i H/\∀ p,H p=none->Q (.ref p) (upd H p (.lst ys)))\/
 (J.go i H/\ys.length < sizeLine/\∃ N:List V->Hp->Prop,(∀ ys' H',N ys' H'->∃ m',m' < m/\W (i + 1) m' ys' H')/\
  ∀ x H',J.yld i H x H'->tt (some x :: σ) H' fun b H2=>if b=true then te (some x :: σ) H2 fun y H3=>N (ys ++ [y]) H3 else N ys H2)
section
variable {X:Cx}{M:List Str}{scope:Scope}{x:Str}{px pos:Pos}{elt iter:Expr}{ifs:List Expr}{wi:TI}{tt:TT}{te:TE}
theorem comp_core {use:Option (Value->Sem Unit)}{QQ:Value->Shared->Prop}{pins:List (Addr × Obj)}{cpos:Pos}(hsc:X.env.scope=sc)(S:a3r sc x scope)(hx:x ∉ M)(h0:(".0":Str) ∉ M)(hN:M.Nodup)(hlen:M.length=X.N.length)(hM:∀ (j:Nat) y,M[j]? = some y->X.N[j]? = some y\/scope.names.lookup y=none)(hc:X.calm=true)(hi:PI X (.Name x px) iter wi)
  (ht:∀ C s H ex,PIfs (X.comp M scope x C s H ex) ifs tt) (he:∀ C s H ex,PE (X.comp M scope x C s H ex) elt te) (I:Inv X pins σ H s) (h:tComp wi tt te σ H Q)
  (fin:∀ (D C:Addr) (s4:Shared) (H4:Hp),C ≠ X.env.locals->(∀ y c,X.env.cells.lookup y=some c->c ≠ C)->(∀ p ∈ X.pn ++ pins,p.1 ≠ C)->X.s₀.heap.objs.size <= C->H4 C=none->(∃ m,s4.heap.Ns C m)->
   (∀ h',Heap.SameBut C s4.heap h'->Inv X pins σ H4 { s4 with heap:=h' })->Q (.ref D) H4->compPost (model X.prog X.w) X.A X.xe use QQ (.ref D) C (.ok .next) s4)
  (hs:∀ v,foldedSetIterable iter X.env v=pure v) :
  wpAny (model X.prog X.w) X.A (comprehension (.ListComp elt [⟨.Name x px,iter,ifs,0⟩] scope pos) scope X.env cpos (newList []) false (eval iter X.env) use) QQ X.xe s:=by
 subst hsc;have hnames:=S.nam;refine wpAny_comprehension_free (use:=use) rfl hs (b6g (S.has I.ok)) S.kind hnames (thn (hi pins s σ H _ I h) fun v s1 h1=>thn h1 fun itv s2 h2=>?_);obtain ⟨it,fp,tn,J,H2,e,I2,T,st2,f2,W,⟨m0,w0⟩,a2h⟩:=h2;subst e;refine wpAny_newObj_type (wpAny_newFunctionEnv S.cell (by intro y hy; simp at hy) (fun h₁ hns₁ hsb₁=>?_) S.kind);dsimp only at hns₁ hsb₁ ⊢;generalize hG:s2.heap.push { cls:=.type "list",dict:=none,data:=.seq ([]:List Value).toArray } = G at hns₁ hsb₁ ⊢;have hC:G.objs.size=s2.heap.objs.size + 1:=by rw [<- hG,Heap.size_push]
 have hDC:s2.heap.objs.size ≠ G.objs.size:=by omega
 have below:∀ b,b < s2.heap.objs.size->b ≠ G.objs.size/\b ≠ s2.heap.objs.size:=fun b hb=>⟨by omega,by omega⟩;have old:∀ b o,s2.heap.get? b=some o->h₁.get? b=some o:=fun b o e=>hsb₁.extBut b o (below b (Heap.lt_size e)).1 (Heap.get?_push_of_some _ (hG ▸ Heap.get?_push_of_some _ e));have hacc:h₁.get? s2.heap.objs.size=some { cls:=.type "list",data:=.seq ([]:List Value).toArray }:=hsb₁.extBut _ _ hDC (Heap.get?_push_of_some _ (hG ▸ Heap.get?_push_size _ rfl))
 have hlt:∀ b ∈ fp,b < s2.heap.objs.size:=fun b hb=>by
  obtain ⟨o,e,_⟩:=T.obj _ _ st2 b hb;exact Heap.lt_size e
 have ctop:∀ y c,(b7r X.env scope.names []).lookup y=some c->c < s2.heap.objs.size:=fun y c e=>by
  obtain ⟨v,q⟩:=I2.cell y c (S.cells I2.ok e);exact q.lt
 have hCle:s2.heap.objs.size <= G.objs.size:=by omega
 have IY:∀ t1,Inv (X.comp M scope x G.objs.size s2 H2 fp) [] (none :: σ) H2 { s2 with heap:=h₁,toks:=t1 }:=fun t1=>S.inv hx h0 hlen hM I2 hCle f2 hlt old hns₁
 have nost:∀ b,s2.heap.objs.size <= b->b ∉ frs X.stack:=fun b hb z=>by
  rcases List.mem_cons.mp (I2.stkSub b z) with q | q
  ·exact Nat.not_le.mpr I2.lt (q ▸ hb)
  ·exact I2.nofs hb q
 have hD:s2.heap.objs.size ∉ frs X.stack:=nost _ (Nat.le_refl _)
 have ptop:∀ {pl:List (Addr × Obj)} {H':Hp},(∀ b ∈ fp,H' b=none)->(∀ p ∈ pl,p.1 ∉ fp)->∀ b ∈ fp,FpOk (X.comp M scope x G.objs.size s2 H2 fp) pl H' b:=fun {pl H'} hn hp b hb=>
  ⟨hn b hb,fun z=>(below b (hlt b hb)).1 z,fun z=>(S.ok I2 hCle f2 hlt).exfs b hb z,.inl hb,fun y c e=>(f2 b hb).2.2.2.2.1 y c (S.cells I2.ok e),fun p hp' z=>hp p hp' (z ▸ hb)⟩
 have Dfp:s2.heap.objs.size ∉ fp:=fun z=>Nat.lt_irrefl _ (hlt _ z)
 have loop:∀ t1,codeAny (model X.prog X.w) X.A (.compLoop (.ListComp elt [⟨.Name x px,iter,ifs,0⟩] scope pos) 0 (.ref it) (.ref s2.heap.objs.size) (compEnvC scope (b7r X.env scope.names []) G.objs.size X.env))
   (compPost (model X.prog X.w) X.A X.xe use QQ (.ref s2.heap.objs.size) G.objs.size) { s2 with heap:=h₁,toks:=t1 }:=by
  intro t1
  refine b2c (fun n s'=>∃ i o H' ys its k,Inv (X.comp M scope x G.objs.size s2 H2 fp) [(s2.heap.objs.size,{ cls:=.type "list",data:=.seq its k })] (o :: σ) H' s'/\tn i s'.heap/\(∀ b ∈ fp,H' b=none)/\a2t ys its.toList/\ys.length <= sizeLine/\W i n ys H')
   ?_ m0 ⟨0,none,H2,[],#[],0,?_,T.keep _ _ _ st2 fun b _ o e=>old b o e,fun b hb=>(f2 b hb).1,.nil,Nat.zero_le _,w0⟩
  ·rintro n s3 ⟨i,o,H3,ys,its,k,I3,st3,fr3,vs3,z3,w3⟩
   have pD:∀ p ∈ [(s2.heap.objs.size,({ cls:=.type "list",data:=.seq its k }:Obj))],p.1 ∉ fp:=fun p hp=>by
    have e:p=_:=List.mem_singleton.mp hp;subst e; exact Dfp
   rcases a2h i n ys H3 w3 with ⟨stop,qn⟩ | ⟨go,hz,N,hN',step⟩
   ·refine wpAny_mono (T.done (X.comp M scope x G.objs.size s2 H2 fp) rfl rfl rfl hc i _ s3 (o :: σ) H3 (fun _ _=>False) I3 (ptop fr3 pD) st3 stop) (fun r s4 ⟨hr,I4⟩=>?_) fun _ _ f=>f;subst hr;obtain ⟨m4,hn4,_⟩:=I4.loc;obtain ⟨eD,nD,_⟩:=I4.pin _ (List.mem_singleton.mpr rfl);have nC:H3 G.objs.size=none:=I4.free;refine fin s2.heap.objs.size G.objs.size s4 (upd H3 s2.heap.objs.size (.lst ys)) (fun z=>Nat.not_le.mpr I2.lt (z ▸ hCle)) (fun y c e z=>?_) (fun p hp z=>?_) (Nat.le_trans I2.sz hCle) (by rw [a0m (Ne.symm hDC)]; exact nC) ⟨m4,hn4⟩ (fun h' hs'=>?_) (qn _ nD)
    ·obtain ⟨v,q⟩:=I2.cell y c e;exact Nat.not_le.mpr q.lt (z ▸ hCle)
    ·exact Nat.not_le.mpr (Heap.lt_size (I2.pin p hp).1) (z ▸ hCle)
    have eD':h'.get? s2.heap.objs.size=some { cls:=.type "list",data:=.seq its k }:=hs'.extBut _ _ hDC eD;have stp:∀ b o,s2.heap.get? b=some o->b ≠ G.objs.size/\b ≠ s2.heap.objs.size:=fun b o e=>below b (Heap.lt_size e)
    have un:Un (frs X.stack) fp H2 (upd H3 s2.heap.objs.size (.lst ys)) s2.heap h':=by
     have B:=I4.base;refine ⟨fun b o e n1 n2 n3=>hs'.extBut _ _ (stp b o e).1 (B.keep b o e n1 n2 n3),fun b o e n1 n2 n3=>?_,fun b o e n1 n3=>?_,fun b o e n3=>?_,fun b xs e=>?_,fun b o u e=>?_,fun b ps e=>?_⟩
     ·obtain ⟨sl,q⟩:=B.slot b o e n1 n2 n3;exact ⟨sl,hs'.extBut _ _ (stp b o e).1 q⟩
     ·rw [a0m (stp b o e).2]; exact B.free b o e n1 n3
     ·obtain ⟨o',q⟩:=B.there b o e n3;exact ⟨o',hs'.extBut _ _ (stp b o e).1 q⟩
     ·have q:=B.tups b xs e;rw [a0m (a0h q nD)]; exact q
     ·have q:=B.frzs b o u e;rw [a0m (a0h q nD)]; exact q
     ·obtain ⟨more,q⟩:=B.tbls b ps e;exact ⟨more,by rw [a0m (a0h q nD)]; exact q⟩
    have hok:HOk X.prog X.w (upd H3 s2.heap.objs.size (.lst ys)) h':=fun b u e=>by
     by_cases hb:b=s2.heap.objs.size
     ·subst hb;rw [a0c] at e;cases e;exact ⟨z3,its.toList,k,vs3,by simpa using eD'⟩
     ·rw [a0m hb] at e;refine (I4.hok b u e).stay (fun c v hc' q=>hs'.extBut _ _ (fun z=>?_) q) (fun c q=>by rw [a0m (a0h q nD)]; exact q) fun c xs q=>by rw [a0m (a0h q nD)]; exact q
      rcases hc' with r | r
      ·rw [r] at z; rw [z,nC] at e; cases e
      ·rw [z,nC] at r; cases r
    refine I2.call' (s':={ s4 with heap:=h' }) I4.os un hok I4.bare (fun b hb=>?_);obtain ⟨f0,f1,f2',f3,f4,f5⟩:=f2 b hb;exact ⟨f3,f1,f4,f5⟩
   ·refine wpAny_mono (T.item (X.comp M scope x G.objs.size s2 H2 fp) rfl rfl rfl hc i _ s3 (o :: σ) H3 (fun _ _=>False) I3 (ptop fr3 pD) st3 go) (fun r s4 ⟨u,hr,h4⟩=>?_) fun _ _ f=>f;subst hr;refine wpAny_mono h4 (fun _ s5 ⟨v5,H5,I5,r5,y5,st5,fr5⟩=>?_) fun _ _ f=>f;have I5':=I5.pinned (ptop fr5 pD) (T.obj _ _ st5);have hnd:(X.comp M scope x G.objs.size s2 H2 fp).N.Nodup:=List.nodup_cons.mpr ⟨hx,hN⟩;have hloc:(relabel scope X.env).names.lookup x=some .local:=lookup_relabel_local S.own;refine wpAny_mono (a1c (X:=X.comp M scope x G.objs.size s2 H2 fp) (i:=0) (pos:=px) hnd rfl (.inl hloc) (.inr hloc) _ s5 (o :: σ) H5 v5 u (fun σ6 H6=>σ6=some v5 :: σ/\H6=H5) I5' r5 ⟨rfl,rfl⟩) (fun _ s6 ⟨σ6,H6,I6,e6,e6'⟩=>?_) fun _ _ f=>f;subst e6 e6'
    have later:∀ {σ7:St} {H7:Hp} {s7:Shared},Inv (X.comp M scope x G.objs.size s2 H2 fp) ([(s2.heap.objs.size,{ cls:=.type "list",data:=.seq its k })] ++ b5t fp s5.heap) σ7 H7 s7->tn (i + 1) s7.heap/\(∀ b ∈ fp,H7 b=none):=fun {σ7 H7 s7} I7=>
     ⟨T.keep _ _ _ st5 fun b hb o e=>(I7.pin (b,o) (List.mem_append_right _ (List.mem_append_right _ (a4x hb e)))).1,fun b hb=>by
      obtain ⟨o,e,d⟩:=T.obj _ _ st5 b hb
      exact (I7.pin (b,o) (List.mem_append_right _ (List.mem_append_right _ (a4x hb e)))).2.1⟩
    refine wpAny_mono (ht _ _ _ _ _ s6 (some v5 :: σ) H6 _ I6 (step v5 H6 y5)) (fun ok s7 ⟨H7,I7,q7⟩=>?_) fun _ _ f=>f
    cases ok with
    | false=>
     obtain ⟨m',hm,w7⟩:=hN' _ _ q7;exact ⟨m',hm,i + 1,some v5,H7,ys,its,k,I7.unpinned,(later I7).1,(later I7).2,vs3,z3,w7⟩
    | true=>
     refine wpAny_mono (he _ _ _ _ _ s7 (some v5 :: σ) H7 _ I7 q7) (fun uy s8 ⟨y8,H8,I8,r8,q8⟩=>?_) fun _ _ f=>f;obtain ⟨m',hm,w8⟩:=hN' _ _ q8;obtain ⟨eD,nD,_⟩:=I8.pin (s2.heap.objs.size,{ cls:=.type "list",data:=.seq its k }) (List.mem_append_right _ (List.mem_append_left _ (List.mem_singleton.mpr rfl)))
     have hsz:its.size <= sizeLine:=by
      have:=vs3.length;have e2:its.toList.length=its.size:=by simp
      omega
     refine wpAny_list_append_plain (hsz:=hsz) ⟨k,eD⟩ fun h9 pl9 sb9=>?_;obtain ⟨k9,e9⟩:=pl9;obtain ⟨st8,fr8⟩:=later I8;have I8':Inv (X.comp M scope x G.objs.size s2 H2 fp) [] (some v5 :: σ) H8 s8:=I8.pins_of fun p hp=>nomatch hp
     have I9:Inv (X.comp M scope x G.objs.size s2 H2 fp) [] (some v5 :: σ) H8 { s8 with heap:=h9 }:=
      I8'.turned (t':=s8.toks) (fun b o hb e=>sb9.extBut b o hb e) nD hDC (.inr (Nat.le_refl _)) (fun y c e z=>by have:=ctop y c e; rw [z] at this; exact Nat.lt_irrefl _ this) fun p hp=>nomatch hp
     refine ⟨m',hm,i + 1,some v5,H8,ys ++ [y8],its.push uy,k9,I9.pins_of fun p hp=>?_,T.keep _ _ _ st8 fun b hb o e=>sb9.extBut b o (fun z=>Dfp (z ▸ hb)) e,fr8,?_,?_,w8⟩
     ·have e:p=_:=List.mem_singleton.mp hp;subst e;exact ⟨e9,nD,hDC,hD,fun v z=>by cases z⟩
     ·rw [Array.toList_push];exact vs3.append (.cons r8 .nil)
     ·rw [List.length_append,List.length_singleton]; omega
  ·refine (IY t1).pins_of fun p hp=>?_;have e:p=_:=List.mem_singleton.mp hp;subst e;exact ⟨hacc,I2.hok.fresh (Nat.le_refl _),hDC,hD,fun v z=>by cases z⟩
 exact codeAny_compStart_list (loop _) (T.self _ 0 _ _ _ (T.keep _ _ _ st2 fun b _ o e=>old b o e) (loop _))
theorem a6x (hsc:X.env.scope=sc)(S:a3r sc x scope)(hx:x ∉ X.N)(h0:(".0":Str) ∉ X.N)(hN:X.N.Nodup)(hc:X.calm=true)(hi:PI X (.Name x px) iter wi)
  (ht:∀ C s H ex,PIfs (X.comp X.N scope x C s H ex) ifs tt) (he:∀ C s H ex,PE (X.comp X.N scope x C s H ex) elt te) (hs:∀ v,foldedSetIterable iter X.env v=pure v:=by intro _; rfl) :
  PE X (.ListComp elt [⟨.Name x px,iter,ifs,0⟩] scope pos) (tComp wi tt te):=by
 intro pins s σ H Q I h;rw [eval_ListComp];exact comp_core (use:=none) (M:=X.N) hsc S hx h0 hN rfl (fun _ _ e=>.inl e) hc hi ht he I h (fun D C s4 H4 _ _ _ _ _ hn inv q=>let ⟨m,hn⟩:=hn; ⟨m,hn,fun h' hs'=>⟨.ref D,H4,inv h' hs',rfl,q⟩⟩) hs
theorem b7q {i:Nat}{py spos:Pos}(hi':X.N[i]? = some y)(hy:Loc X.env.scope y)(hsc:X.env.scope=sc)(S:a3r sc x scope)(hx:x ∉ X.N)(h0:(".0":Str) ∉ X.N)(hN:X.N.Nodup)(hc:X.calm=true)(hi:PI X (.Name x px) iter wi)
  (ht:∀ C s H ex,PIfs (X.comp X.N scope x C s H ex) ifs tt) (he:∀ C s H ex,PE (X.comp X.N scope x C s H ex) elt te) (hs:∀ v,foldedSetIterable iter X.env v=pure v:=by intro _; rfl)
  (hsw:swapsWith (.ListComp elt [⟨.Name x px,iter,ifs,0⟩] scope pos) (some (.Name y py)) spos.line X.env=pure true:=by rfl)
  (hf:X.fn y=true\/X.env.scope.names.lookup y=some .local:=by first | exact .inl rfl | exact .inr rfl | assumption) :
  PS X (.Assign [.Name y py] (.ListComp elt [⟨.Name x px,iter,ifs,0⟩] scope pos) spos) (tAsg (tComp wi tt te) (gName i)):=by
 intro pins s σ H D I h;rw [exec_Assign_Name_used _ _ _ _ hsw];refine wpAny_bind (wpAny_standAt (wpAny_bind ?_));show wpAny _ X.A (do let _ <- comprehension (.ListComp elt [⟨.Name x px,iter,ifs,0⟩] scope pos) scope X.env _ (newList []) false (eval iter X.env) (some (assign (.Name y py) X.env))) _ _ s;refine wpAny_bind (wpAny_mono (comp_core (use:=some (assign (.Name y py) X.env)) (QQ:=fun _ s'=>SP X pins D .next s') (M:=X.N) hsc S hx h0 hN rfl (fun _ _ e=>.inl e) hc hi ht he I h (fun D' C s4 H4 c1 c2 c3 c4 c5 hn inv q=>?_) hs) (fun _ s' hq=>wpAny_pure (wpAny_pure hq)) fun _ _ e=>e);obtain ⟨m,hn⟩:=hn;show wpAny _ X.A (assign (.Name y py) X.env (.ref D')) _ _ s4;refine wpAny_assign_Name (store_ok2 (v:=.ref D') (inv s4.heap (.refl ..)) hN hi' hy rfl (fun s5 I5 ⟨a,sb,ha⟩=>?_) hf)
 have hCa:C ≠ a:=by
  rcases ha with r | r
  ·rw [r]; exact c1
  ·exact fun z=>c2 _ _ r z.symm
 exact ⟨m,hn.sameBut sb hCa,fun h' hs'=>⟨_,H4,I5.turned (t':=s5.toks) (fun b o hb e=>hs'.extBut b o hb e) c5 c1 (.inr c4) c2 c3,q⟩⟩
end
theorem comp_range {n:Nat}(Pv:Nat->List V->Hp->Prop)(hn:n <= 1000)(h0:Pv 0 [] H)(hl:∀ i ys H,Pv i ys H->ys.length <= i)
  (hs:∀ i ys H,i < n->Pv i ys H->tt (some (.int (i:Int)) :: σ) H fun b H2=>if b=true then te (some (.int (i:Int)) :: σ) H2 fun y H3=>Pv (i + 1) (ys ++ [y]) H3 else Pv (i + 1) ys H2)
  (hd:∀ ys H,Pv n ys H->∀ p,H p=none->Q (.ref p) (upd H p (.lst ys))) :
  ∃ W:Nat->Nat->List V->Hp->Prop,(∃ m,W 0 m [] H)/\∀ i m ys H,W i m ys H->((Itr 0 n).stop i H/\∀ p,H p=none->Q (.ref p) (upd H p (.lst ys)))\/
   ((Itr 0 n).go i H/\ys.length < sizeLine/\∃ N:List V->Hp->Prop,(∀ ys' H',N ys' H'->∃ m',m' < m/\W (i + 1) m' ys' H')/\
    ∀ x H',(Itr 0 n).yld i H x H'->tt (some x :: σ) H' fun b H2=>if b=true then te (some x :: σ) H2 fun y H3=>N (ys ++ [y]) H3 else N ys H2):=by
 refine ⟨fun i m ys H=>m=n - i/\i <= n/\Pv i ys H,⟨n,by simp,Nat.zero_le _,h0⟩,?_⟩;rintro i m ys H ⟨rfl,hi,p⟩
 by_cases hlt:i < n
 ·refine .inr ⟨hlt,a2j (by have:=hl i ys H p; omega),Pv (i + 1),fun ys' H' p'=>⟨n - (i + 1),by omega,rfl,hlt,p'⟩,fun x H' y=>?_⟩;obtain ⟨e,y⟩:=y;subst e y;rw [Int.zero_add];exact hs i ys _ hlt p
 ·have e:i=n:=by omega
  subst e;exact .inl ⟨Nat.le_refl _,hd ys H p⟩
theorem a6p {ta:TE}{n:Nat}(hn:n <= 1000)(e:∀ P:V->Hp->Prop,P (.int (n:Int)) H->ta σ H P)(Pv:Nat->List V->Hp->Prop)(h0:Pv 0 [] H)(hl:∀ i ys H,Pv i ys H->ys.length <= i)
  (hs:∀ i ys H,i < n->Pv i ys H->tt (some (.int (i:Int)) :: σ) H fun b H2=>if b=true then te (some (.int (i:Int)) :: σ) H2 fun y H3=>Pv (i + 1) (ys ++ [y]) H3 else Pv (i + 1) ys H2)
  (hd:∀ ys H,Pv n ys H->∀ p,H p=none->Q (.ref p) (upd H p (.lst ys))):tComp (iRng1 (tCons ta tNil)) tt te σ H Q:=
 e _ ⟨(n:Int),rfl,by omega,by omega,comp_range Pv hn h0 hl hs hd⟩
theorem comp_tup {K:PySem.W.Frag}{a:Addr}{xs:List V}(Pv:Nat->List V->Hp->Prop)(hn:xs.length <= 1000)(h0:Pv 0 [] H)(hl:∀ i ys H,Pv i ys H->ys.length <= i)(hk:∀ i ys H,Pv i ys H->SqT K H a xs)
  (hs:∀ i x ys H,xs[i]? = some x->Pv i ys H->tt (some x :: σ) H fun b H2=>if b=true then te (some x :: σ) H2 fun y H3=>Pv (i + 1) (ys ++ [y]) H3 else Pv (i + 1) ys H2)
  (hd:∀ ys H,Pv xs.length ys H->∀ p,H p=none->Q (.ref p) (upd H p (.lst ys))) :
  ∃ W:Nat->Nat->List V->Hp->Prop,(∃ m,W 0 m [] H)/\∀ i m ys H,W i m ys H->((Itt K a).stop i H/\∀ p,H p=none->Q (.ref p) (upd H p (.lst ys)))\/
   ((Itt K a).go i H/\ys.length < sizeLine/\∃ N:List V->Hp->Prop,(∀ ys' H',N ys' H'->∃ m',m' < m/\W (i + 1) m' ys' H')/\
    ∀ x H',(Itt K a).yld i H x H'->tt (some x :: σ) H' fun b H2=>if b=true then te (some x :: σ) H2 fun y H3=>N (ys ++ [y]) H3 else N ys H2):=by
 refine ⟨fun i m ys H=>m=xs.length - i/\i <= xs.length/\Pv i ys H,⟨xs.length,by simp,Nat.zero_le _,h0⟩,?_⟩;rintro i m ys H ⟨rfl,hi,p⟩
 by_cases hlt:i < xs.length
 ·refine .inr ⟨⟨xs,xs[i],hk i ys H p,by simp [hlt]⟩,a2j (by have:=hl i ys H p; omega),Pv (i + 1),fun ys' H' p'=>⟨xs.length - (i + 1),by omega,rfl,hlt,p'⟩,fun x H' y=>?_⟩;obtain ⟨e,y⟩:=y;subst e;exact hs i x ys _ (y xs (hk i ys _ p)) p
 ·have e:i=xs.length:=by omega
  subst e;exact .inl ⟨⟨xs,hk _ ys H p,Nat.le_refl _⟩,hd ys H p⟩
end L2
namespace Tw
end Tw
namespace L2
open PySem PySem.Spec PyProof.Rows
variable {K:PySem.W.Frag}{tl:TE}
def rLen (K:PySem.W.Frag):List V->Hp->VK->Prop:=fun xs H Q=>(∃ p ys,xs=[.ref p]/\(SqL K H p ys\/SqT K H p ys)/\Q (.int (ys.length:Nat)) H)\/∃ z,xs=[.str z]/\z.length <= sizeLine/\Q (.int (z.length:Nat)) H
theorem a3k {X:Cx}:b1s X (.builtin "len") (rLen X.K):=call_len_seq.or call_len_str
section
variable {K:PySem.W.Frag}{H:Hp}{Q:VK}{D:b0y}{σ:St}{te:TE}{tA:TA}{g:TG}{tb:TS}{v w y:V}{a b l:Addr}{i j:Int}{xs ys zs:List V}{n:Nat}{T:String}{r:V->List V->Hp->VK->Prop}
theorem a9m (e:∀ P:V->Hp->Prop,P (.ref a) H->tl σ H P)(s:SqL K H a xs)(Pv:Nat->St->Hp->Prop)(h0:Pv 0 σ H)(hl:∀ i σ H,i <= xs.length->Pv i σ H->SqL K H a xs)
  (hs:∀ i x σ H,xs[i]? = some x->Pv i σ H->g x σ H fun σ2 H2=>tb { D with nx:=Pv (i + 1),ct:=Pv (i + 1),bk:=D.nx } σ2 H2) (hd:∀ σ H,Pv xs.length σ H->D.nx σ H):tFor (iList K tl) g tb D σ H:=
 e _ ⟨a,rfl,⟨xs,s⟩,for_list Pv h0 hl hs hd⟩
def sForL (K:PySem.W.Frag)(g:TG)(tb:TS)(D:b0y)(σ:St):V->Hp->Prop:=fun x H=>∃ a,x=.ref a/\(∃ xs,SqL K H a xs)/\∃ W:Nat->Nat->St->Hp->Prop,(∃ m,W 0 m σ H)/\∀ i m σ H,W i m σ H->
 ((Itl K a).stop i H/\D.nx σ H)\/((Itl K a).go i H/\∃ N:St->Hp->Prop,(∀ σ' H',N σ' H'->∃ m',m' < m/\W (i + 1) m' σ' H')/\∀ x H',(Itl K a).yld i H x H'->g x σ H' fun σ2 H2=>tb { D with nx:=N,ct:=N,bk:=D.nx } σ2 H2)
theorem st_forE (h:tl σ H (sForL K g tb D σ)):tFor (iList K tl) g tb D σ H:=h
theorem st_forAt (s:SqL K H a xs)(Pv:Nat->St->Hp->Prop)(h0:Pv 0 σ H)(hl:∀ i σ H,i <= xs.length->Pv i σ H->SqL K H a xs)
  (hs:∀ i x σ H,xs[i]? = some x->Pv i σ H->g x σ H fun σ2 H2=>tb { D with nx:=Pv (i + 1),ct:=Pv (i + 1),bk:=D.nx } σ2 H2) (hd:∀ σ H,Pv xs.length σ H->D.nx σ H):sForL K g tb D σ (.ref a) H:=
 ⟨a,rfl,⟨xs,s⟩,for_list Pv h0 hl hs hd⟩
theorem st_cat (h1:H l=some (.lst xs))(h2:H b=some (.lst zs))(hz:xs.length + zs.length <= 1000)(q:∀ p,H p=none->Q (.ref p) (upd H p (.lst (xs ++ zs)))):rCat (.ref l) (.ref b) H Q:=
 ⟨l,b,xs,zs,rfl,rfl,h1,h2,Nat.le_of_lt (a2j hz),q⟩
theorem st_bm (h:te σ H fun x H1=>tyV K T x H1/\tA σ H1 fun xs H2=>r x xs H2 Q):tBM K T r te tA σ H Q:=h
theorem st_tyL {P:Prop}(s:SqL K H a xs)(h:P):tyV K "list" (.ref a) H/\P:=⟨.inl ⟨rfl,xs,s⟩,h⟩
theorem st_lenL (s:SqL K H a xs)(h:Q (.int (xs.length:Nat)) H):rLen K [.ref a] H Q:=.inl ⟨a,xs,rfl,.inl s,h⟩
theorem st_lenT (s:SqT K H a xs)(h:Q (.int (xs.length:Nat)) H):rLen K [.ref a] H Q:=.inl ⟨a,xs,rfl,.inr s,h⟩
end
theorem a7m :PySem.W.kitOne K (.type "NoneType") (.type "int") = some false:=by kernel_rfl
theorem a6j :PySem.W.kitOne K (.type "NoneType") (.type "bool") = some false:=by kernel_rfl
theorem b1y :PySem.W.kitOne K (.type "bool") (.type "int") = some true:=by kernel_rfl
theorem b0n :PySem.W.kitOne K (.type "bool") (.type "bool") = some true:=by kernel_rfl
theorem b4s :PySem.W.kitOne K (.type "int") (.type "int") = some true:=by kernel_rfl
theorem b2f :PySem.W.kitOne K (.type "int") (.type "bool") = some false:=by kernel_rfl
theorem b4h :PySem.W.kitOne K (.type "str") (.type "int") = some false:=by kernel_rfl
theorem b1w :PySem.W.kitOne K (.type "str") (.type "bool") = some false:=by kernel_rfl
theorem b7z :PySem.W.kitOne K (.type "list") (.type "list") = some true:=by kernel_rfl
theorem b4g :PySem.W.kitOne K (.type "tuple") (.type "tuple") = some true:=by kernel_rfl
end L2
namespace Tw
open PySem PySem.Spec PyProof.Rows L2
def Alone (_:Addr)(_:Heap):Prop:=True
def AloneT (_:Addr)(_:Heap):Prop:=True
end Tw
namespace L2
open PySem PySem.Spec PyProof.Rows
variable {C b f:Addr}{A:Around}{u:HO}{base h h':Heap}{H:Hp}{outer:List Env}{N:List Str}{P:Program}{K:PySem.W.Frag}{scope:Scope}{s:Shared}{qual:Str}{cd:Value}{w:World}{E:XK}
abbrev bmVE:List Value:=[.type "ValueError",.type "Exception",.type "BaseException",.type "object"]
structure ExcK (K:PySem.W.Frag)(C:Addr):Prop where
 exc:PySem.W.excIn K C bmVE "ValueError.__new__" = true
 ga:PySem.W.findIn K (.ref C) "__getattribute__" = some (some (.builtin "BaseException.__getattribute__"))
 gt:PySem.W.findIn K (.ref C) "__getattr__" = some none
 ca:PySem.W.findIn K (.ref C) "__class__" = some (some (.builtin "object.__class__"))
 cg:PySem.W.specialIn K (.builtin "object.__class__") "__get__" = some (some (.builtin "getset_descriptor.__get__"))
 tk:PySem.W.takesIn K (.builtin "object.__class__") = some true
 mo:PySem.W.mroIn K C (.type "object") = some true
 mb:PySem.W.mroIn K C (.type "BaseException") = some true
structure ExcC (K:PySem.W.Frag)(mg:Str->Option Value)(x:Str)(C:Addr):Prop where
 at_:mg x=some (.ref C)
 k:ExcK K C
theorem ExcK.obj (c:ExcK K C)(X:K.In h):∃ bm N nm q bs hdct sn sub ab col dd k0 k1 k2 k3 k5 mN,h.get? C=some (excClassObj nm q C N bs bm hdct sn sub ab col dd k0 k1 k2 k3 k5 "ValueError.__new__")/\h.Ns N mN/\mN "__init__" = none/\OwnTail h bmVE bm:=by
 have q:=c.exc;unfold PySem.W.excIn at q
 split at q
 ·rename_i dd cd sl ho
  split at q
  ·rename_i C' bm k0 k1 k2 k3 n k5 hm hs;simp only [Bool.and_eq_true,beq_iff_eq,Bool.not_eq_true'] at q;obtain ⟨⟨⟨⟨⟨rfl,rfl⟩,hdel⟩,ht⟩,hok⟩,hni⟩:=q;obtain ⟨nm,bs,mro,ns,qn,hd,sn,sub,ab,col,del⟩:=cd;dsimp only at hm hdel hok hni;subst hm hdel
   have hsl:sl= #[k0,k1,k2,k3,some (.builtin "ValueError.__new__"),k5]:=by
    obtain ⟨l⟩:=sl;simp only at hs;rw [hs]
   subst hsl;exact ⟨bm,ns,nm,qn,bs,hd,sn,sub,ab,col,dd,k0,k1,k2,k3,k5,_,X _ _ ho,.of_isNs (PySem.W.isNs_of_in X hok),PySem.W.nsMap_none_of_in X hok hni,PySem.W.tail_of_in X ht⟩
  ·cases q
 ·cases q
theorem a2w.there (k:a2w P w H h b u):∃ o,h.get? b=some o:=by
 revert k
 cases u with
 | lst xs=>rintro ⟨_,its,n,_,z⟩; exact ⟨_,z⟩
 | tup xs=>rintro ⟨_,its,_,o,z,_⟩; exact ⟨_,z⟩
 | dK kvs=>rintro ⟨_,_,vs,_,o,es,ep,z,_⟩; exact ⟨_,z⟩
 | dT kvs=>rintro ⟨_,_,vs,_,o,es,ep,z,_⟩; exact ⟨_,z⟩
 | set S n=>rintro ⟨o,es,ep,t,z,_⟩; exact ⟨_,z⟩
 | ins C dx fs=>rintro ⟨_,_,_,z,_⟩; exact ⟨_,z⟩
 | own y=>rintro ⟨o,z⟩; exact ⟨_,z⟩
 | xd fs=>rintro ⟨mA,⟨od,es,ep,z,_⟩,_⟩; exact ⟨_,z⟩
 | rng lo hi=>rintro ⟨t,u,v,z⟩; exact ⟨_,z⟩
 | frz ob u=>rintro ⟨z,_⟩; exact ⟨_,z⟩
 | tbl ps=>intro z; exact ⟨_,z⟩
 | met f y=>intro z; exact ⟨_,z⟩
 | ext φ=>rintro ⟨_,⟨o,z⟩,_⟩; exact ⟨_,z⟩
structure Flown (P:Program)(w:World)(outer:List Env)(H:Hp)(s:Shared)(E:XK)(ea:Addr)(cls:Value)(H':Hp)(B:Heap)(s':Shared):Prop where
 os:s'.os=s.os
 bare:AllBare s'.gens
 un:Un (frs outer) [] H H' s.heap s'.heap
 hok:HOk P w H' s'.heap
 fly:∃ a0,Heap.FlyingW B outer ea cls a0 s'.heap
 old:∀ b o,s.heap.get? b=some o->b ∉ frs outer->∃ o',B.get? b=some o'/\(H b=none->o' = o)
 trk:∀ b u o,H' b=some u->s'.heap.get? b=some o->B.get? b=some o
 want:E cls none H'
 al:Tw.AloneT ea s'.heap\/E cls (some 0) H'
def CXE (P:Program)(w:World):CXT:=fun outer H s E e s'=>∃ (ea:Addr) (cls:Value) (H':Hp) (B:Heap),e=.ref ea/\Flown P w outer H s E ea cls H' B s'
section
variable {P:Program}{w:World}{X:Cx}{pins:List (Addr × Obj)}{σ:St}{H H':Hp}{s s':Shared}{E:XK}{ea:Addr}{cls:Value}{B:Heap}{outer:List Env}
theorem Flown.some_of (F:Flown P w outer H s E ea cls H' B s')(e:H' b=some u):∃ o,s'.heap.get? b=some o:=(F.hok b u e).there
theorem Flown.hokTo (F:Flown P w outer H s E ea cls H' B s')(k:B.StaysIn h'):HOk P w H' h':=fun b u e=>by
 refine (F.hok b u e).stay (fun c v hc q=>?_) (fun _ q=>q) fun _ _ q=>q
 rcases hc with r | r
 ·subst r; exact k _ _ (F.trk _ _ _ e q)
 ·exact k _ _ (F.trk _ _ _ r q)
end
theorem passE {mg:Str->Option Value} :
  a8d (CXE P w) (cxOf (CXE P w) P w K mg base N qual scope f cd A outer s H E) E:=by
 intro pins σ H1 s1 e s' I h;obtain ⟨ea,cls,H',B,rfl,F⟩:=h;have F':Flown P w (envOfC qual scope s.heap.objs.size f cd :: outer) H1 s1 E ea cls H' B s':=F;obtain ⟨a0,fl⟩:=F'.fly;have hfr:=I.ok.frames;show wpAny _ _ (leaving _ _) _ _ _
 have on:∀ E1:Value->Shared->Prop,wpAny (model P w) (A.deeper (envOfC qual scope s.heap.objs.size f cd)) (leaving (envOfC qual scope s.heap.objs.size f cd) (.ref ea)) (fun _ s2=>(Tw.AloneT ea s2.heap\/E cls (some 0) H')/\∃ h',s2= { s' with heap:=h' }/\Heap.FlyingW B outer ea cls a0 h'/\s'.heap.UpToSlots h') E1 s':=fun E1=>by
  have one:wpAny (model P w) (A.deeper (envOfC qual scope s.heap.objs.size f cd)) (leaving (envOfC qual scope s.heap.objs.size f cd) (.ref ea)) (fun _ s2=>∃ h',s2= { s' with heap:=h' }/\Heap.FlyingW B outer ea cls a0 h'/\s'.heap.UpToSlots h') E1 s':=wpAny_leaves_onW (outer:=outer) hfr rfl fl fun h' fl' up=>⟨h',rfl,fl',up⟩
  rcases F'.al with ka | ka
  ·exact wpAny_mono one (fun _ _ z=>⟨.inl trivial,z⟩) fun _ _ z=>z
  ·exact wpAny_mono one (fun _ _ z=>⟨.inr ka,z⟩) fun _ _ z=>z
 refine wpAny_mono (on _) (fun _ s2 ⟨ka,h',e2,fl',up⟩=>?_) fun _ _ z=>z;subst e2
 have frs2:∀ b,b ∈ frs (envOfC qual scope s.heap.objs.size f cd :: outer)->b=s.heap.objs.size\/b ∈ frs outer:=fun b hb=>by
  obtain ⟨env,he,hf⟩:=List.mem_filterMap.mp hb
  rcases List.mem_cons.mp he with rfl | he
  ·exact .inl (Option.some.inj hf).symm
  ·exact .inr (List.mem_filterMap.mpr ⟨env,he,hf⟩)
 have notin:∀ b o,s.heap.get? b=some o->b ∉ frs outer->b ∉ frs (envOfC qual scope s.heap.objs.size f cd :: outer):=fun b o e hb z=>by
  rcases frs2 b z with r | r
  ·have:=Heap.lt_size e;rw [r] at this;exact Nat.lt_irrefl _ this
  ·exact hb r
 have base0:Un (frs outer) [] H H1 s.heap s1.heap:=I.base;obtain ⟨_,_,frm,_⟩:=id fl;have frm':s'.heap.FunFrames B outer:=frm.2.2;refine ⟨ea,cls,H',B,rfl,F'.os.trans I.os,F'.bare,⟨fun b o e n hb _=>?_,fun b o e n hb _=>?_,fun b o e n _=>?_,fun b o e _=>?_,fun b xs e=>F'.un.tups b xs (base0.tups b xs e),fun b o u e=>F'.un.frzs b o u (base0.frzs b o u e),fun b ps e=>?_⟩,F'.hokTo fl'.1,⟨a0,fl'⟩,fun b o e hb=>?_,fun b u o e q=>?_,F'.want,ka⟩
 ·obtain ⟨o',q,z⟩:=F'.old b o (base0.keep b o e n hb (by simp)) (notin b o e hb);rw [z (base0.free b o e n (by simp))] at q;exact fl'.1 _ _ q
 ·obtain ⟨sl,q⟩:=base0.slot b o e n hb (by simp);obtain ⟨sl2,q2⟩:=F'.un.any (b:=b) q (base0.free b o e n (by simp)) (by simp);obtain ⟨_,o3,q3,d3⟩:=frm'.mem hb;rw [q2] at q3; cases q3;obtain ⟨sl',q'⟩:=up b _ q2 d3;exact ⟨sl',q'⟩
 ·obtain ⟨o1,q1⟩:=base0.there b o e (by simp);exact F'.un.free b o1 q1 (base0.free b o e n (by simp)) (by simp)
 ·obtain ⟨o1,q1⟩:=base0.there b o e (by simp)
  by_cases hb:b ∈ frs outer
  ·obtain ⟨_,o3,q3,d3⟩:=frm'.mem hb;obtain ⟨sl',q'⟩:=up b _ q3 d3;exact ⟨_,q'⟩
  ·obtain ⟨o',q,_⟩:=F'.old b o1 q1 (notin b o e hb);exact ⟨o',fl'.1 _ _ q⟩
 ·obtain ⟨m1,e1⟩:=base0.tbls b ps e;obtain ⟨m2,e2⟩:=F'.un.tbls b _ e1;exact ⟨m1 ++ m2,by rw [e2,Array.append_assoc]⟩
 ·obtain ⟨o1,q1⟩:=base0.there b o e (by simp);obtain ⟨o',q,z⟩:=F'.old b o1 q1 (notin b o e hb);refine ⟨o',q,fun n=>?_⟩;have q1':=base0.keep b o e n hb (by simp);rw [q1'] at q1; cases q1;exact z (base0.free b o e n (by simp))
 ·obtain ⟨o1,q1⟩:=F'.some_of e;have q2:=F'.trk b u o1 e q1;have q3:=fl'.1 _ _ q2;rw [q3] at q; cases q;exact q2
structure MadeX (h h':Heap)(e:Addr)(cls:Value):Prop where
 keeps:∀ b o,h.get? b=some o->h'.get? b=some o
 new:h.get? e=none
 there:∃ oe vs a0,h'.get? e=some oe/\oe.cls=cls/\oe.data=.fields vs/\vs[0]? = some a0/\vs[1]? = some .none
theorem MadeX.of {e:Addr}{cls:Value}{args:List Value}(x:Heap.MadeExcOf h h' e cls args):MadeX h h' e cls/\Tw.Alone e h':=by
 obtain ⟨t,he,_,_⟩:=x.there;exact ⟨⟨x.keeps,x.new,_,_,_,he,rfl,rfl,rfl,rfl⟩,trivial⟩
def RaisesX (X:Cx)(C:Addr)(E:XK):Prop:=∀ (pins:List (Addr × Obj)) (σ:St) (H:Hp) (s:Shared) (h':Heap) (e:Addr),Inv X pins σ H s->MadeX s.heap h' e (.ref C)->E (.ref C) none H->(Tw.Alone e h'\/E (.ref C) (some 0) H)->X.xe (.ref e) { s with heap:=h' }
def Raises (X:Cx)(C:Addr)(E:XK):Prop:=∀ (pins:List (Addr × Obj)) (σ:St) (H:Hp) (s:Shared) (h':Heap) (e:Addr) (args:List Value),Inv X pins σ H s->Heap.MadeExcOf s.heap h' e (.ref C) args->E (.ref C) none H->X.xe (.ref e) { s with heap:=h' }
theorem raisesX {mg:Str->Option Value} :
  RaisesX (cxOf (CXE P w) P w K mg base N qual scope f cd A outer s H E) C E:=by
 intro pins σ H1 s1 h1 e I hx hE hA;have hfr:=I.ok.frames;have st:=I.stack;show wpAny _ _ (leaving _ _) _ _ _;have hin:∀ env ∈ (envOfC qual scope s.heap.objs.size f cd :: outer),∀ b,env.frame=some b->b ∈ frs (envOfC qual scope s.heap.objs.size f cd :: outer):=fun env he b hb=>List.mem_filterMap.mpr ⟨env,he,hb⟩;have hid:∀ {b o},s1.heap.get? b=some o->b ∉ frs (envOfC qual scope s.heap.objs.size f cd :: outer)->(PySem.W.hideAll s1.heap (frs (envOfC qual scope s.heap.objs.size f cd :: outer))).get? b=some o:=fun q nm=>PySem.W.hideAll_get _ q nm;obtain ⟨oe,vs,a0,he,hcl,hd,h0,h1'⟩:=hx.there;have fr1:h1.FunFrames (PySem.W.hideAll s1.heap (frs (envOfC qual scope s.heap.objs.size f cd :: outer))) (envOfC qual scope s.heap.objs.size f cd :: outer):=(PySem.W.funFrames_hide st hin).of_keeps fun b o hb _=>⟨o,hx.keeps b o hb,rfl⟩;have hkb:(PySem.W.hideAll s1.heap (frs (envOfC qual scope s.heap.objs.size f cd :: outer))).StaysIn h1:=fun b o q=>hx.keeps b o (PySem.W.of_hideAll _ q)
 have hnw:(PySem.W.hideAll s1.heap (frs (envOfC qual scope s.heap.objs.size f cd :: outer))).get? e=none:=by
  cases q:(PySem.W.hideAll s1.heap (frs (envOfC qual scope s.heap.objs.size f cd :: outer))).get? e with
  | none=>rfl
  | some o'=>
   have:=PySem.W.of_hideAll _ q;rw [hx.new] at this;cases this
 have on:∀ E1:Value->Shared->Prop,wpAny (model P w) (A.deeper (envOfC qual scope s.heap.objs.size f cd)) (leaving (envOfC qual scope s.heap.objs.size f cd) (.ref e)) (fun _ s2=>(Tw.AloneT e s2.heap\/E (.ref C) (some 0) H1)/\∃ h',s2= { s1 with heap:=h' }/\Heap.FlyingW (PySem.W.hideAll s1.heap (frs (envOfC qual scope s.heap.objs.size f cd :: outer))) outer e (.ref C) a0 h'/\h1.UpToSlots h') E1 { s1 with heap:=h1 }:=fun E1=>by
  have one:wpAny (model P w) (A.deeper (envOfC qual scope s.heap.objs.size f cd)) (leaving (envOfC qual scope s.heap.objs.size f cd) (.ref e)) (fun _ s2=>∃ h',s2= { s1 with heap:=h' }/\Heap.FlyingW (PySem.W.hideAll s1.heap (frs (envOfC qual scope s.heap.objs.size f cd :: outer))) outer e (.ref C) a0 h'/\h1.UpToSlots h') E1 { s1 with heap:=h1 }:=
   wpAny_leaving_firstW (s:={ s1 with heap:=h1 }) (a0:=a0) hfr fr1 rfl he hkb hnw hd h1' h0 fun h' hL=>by
    obtain ⟨k1,⟨_,_,k2⟩,k3,k4⟩:=hL;rw [hcl] at k3;exact ⟨h',rfl,⟨k1,hnw,k2,k3⟩,k4⟩
  rcases hA with ka | ka
  ·exact wpAny_mono one (fun _ _ z=>⟨.inl trivial,z⟩) fun _ _ z=>z
  ·exact wpAny_mono one (fun _ _ z=>⟨.inr ka,z⟩) fun _ _ z=>z
 refine wpAny_mono (on _) (fun _ s2 ⟨ka,h',e2,fl,up⟩=>?_) fun _ _ z=>z;subst e2;have base0:Un (frs outer) [] H H1 s.heap s1.heap:=I.base
 have notin:∀ b o,s.heap.get? b=some o->b ∉ frs outer->b ∉ frs (envOfC qual scope s.heap.objs.size f cd :: outer):=fun b o e hb z=>by
  obtain ⟨env,he,hf⟩:=List.mem_filterMap.mp z
  rcases List.mem_cons.mp he with rfl | he
  ·have h1:=Heap.lt_size e;have z2:s.heap.objs.size=b:=Option.some.inj hf;rw [<- z2] at h1;exact Nat.lt_irrefl _ h1
  ·exact hb (List.mem_filterMap.mpr ⟨env,he,hf⟩)
 have trkd:∀ b u,H1 b=some u->b ∉ frs (envOfC qual scope s.heap.objs.size f cd :: outer):=fun b u e z=>by
  rw [I.stkFree b z] at e; cases e
 obtain ⟨_,_,frm,_⟩:=id fl;refine ⟨e,.ref C,H1,_,rfl,I.os,I.bare,⟨fun b o e n hb _=>?_,fun b o e n hb _=>?_,fun b o e n _=>base0.free b o e n (by simp),fun b o e _=>?_,base0.tups,base0.frzs,base0.tbls⟩,fun b u e=>?_,⟨_,fl⟩,fun b o e hb=>?_,fun b u o e q=>?_,hE,ka⟩
 ·exact fl.1 _ _ (hid (base0.keep b o e n hb (by simp)) (notin b o e hb))
 ·obtain ⟨sl,q⟩:=base0.slot b o e n hb (by simp);obtain ⟨_,o3,q3,d3⟩:=st.2.2.mem hb;rw [q] at q3; cases q3;obtain ⟨sl',q'⟩:=up b _ (hx.keeps _ _ q) d3;exact ⟨sl',q'⟩
 ·obtain ⟨o1,q1⟩:=base0.there b o e (by simp)
  by_cases hb:b ∈ frs outer
  ·obtain ⟨_,o3,q3,d3⟩:=frm.mem hb;exact ⟨_,q3⟩
  ·exact ⟨o1,fl.1 _ _ (hid q1 (notin b o e hb))⟩
 ·refine (I.hok b u e).stay (fun c v hc q=>?_) (fun _ q=>q) fun _ _ q=>q
  rcases hc with r | r
  ·subst r; exact fl.1 _ _ (hid q (trkd _ _ e))
  ·exact fl.1 _ _ (hid q (trkd _ _ r))
 ·obtain ⟨o1,q1⟩:=base0.there b o e (by simp);refine ⟨o1,hid q1 (notin b o e hb),fun n=>?_⟩;have q2:=base0.keep b o e n hb (by simp);rw [q1] at q2; cases q2; rfl
 ·obtain ⟨o1,q1⟩:=(I.hok b u e).there;have q2:=hid q1 (trkd _ _ e);have q3:=fl.1 _ _ q2;rw [q3] at q; cases q;exact q2
theorem a5v {mg:Str->Option Value} :
  Raises (cxOf (CXE P w) P w K mg base N qual scope f cd A outer s H E) C E:=fun pins σ H1 s1 h1 e args I hx hE=>raisesX pins σ H1 s1 h1 e I (MadeX.of hx).1 hE (.inl (MadeX.of hx).2)
section
variable {X:Cx}{x:Str}{C:Addr}{E:XK}{np cpos pos:Pos}{e:Expr}{es:List Expr}{t:TA}
def tRaise (C:Addr)(E:XK)(t:TA):TS:=fun _ σ H=>t σ H fun vs H1=>vs.length <= 1000/\E (.ref C) none H1
theorem a3x (c:ExcC X.K X.mg x C)(hr:Raises X C E)(ha:PA X (e :: es) t)(hc:X.calm=true)(hg:Gl X x:=by rfl)(hd:(x == ("__debug__":Str)) = false:=by decide)
  (he:starEach (e :: es) X.env=(false,eval e X.env) :: starEach es X.env:=by rfl) (hpl:(backTo cpos (starEach es X.env)).any (·.1) = false:=by rfl) :
  PS X (.Raise (some (.Call (.Name x np) (e :: es) [] cpos)) none pos) (tRaise C E t):=by
 intro pins s σ H D I h;obtain ⟨bm,N,nm,q,bs,hdct,sn,sub,ab,col,dd,k0,k1,k2,k3,k5,mN,hC,hN,hni,T⟩:=c.k.obj I.ok.mod.kin
 refine wpAny_Raise_call_subT (C:=C) (nm:=nm) (q:=q) (N:=N) (bs:=bs) (bm:=bm) (hdct:=hdct) (sn:=sn) (sub:=sub) (ab:=ab) (col:=col) (dd:=dd) (k0:=k0) (k1:=k1) (k2:=k2) (k3:=k3) (k5:=k5)
  PySem.F.excBase_ValueError (mN:=mN) (T.hasType PySem.F.excBase_ValueError.hasBase) (I.ok.hd hc) (by rw [he]; show (false || (backTo cpos (starEach es X.env)).any (·.1)) = false; rw [hpl]; rfl) hni (b3c I hg c.at_ ⟨rfl,?_⟩ hd)
 have h':=ha cpos pins s σ H _ I h;rw [he] at h' ⊢;refine Calls.evalArgs_plain (thn h' fun us s2 ⟨vs,H2,I2,r2,z,q2⟩=>?_);have hl:us.length <= sizeLine:=by rw [<- r2.length]; exact Nat.le_of_lt (a2j z)
 exact ⟨rfl,hl,I2.bk _ _ hC,hN.keeps I2.bk,T.keeps I2.bk,fun h' e hm=>hr pins σ H2 s2 h' e us I2 hm q2⟩
end
def XIn (X:Cx)(pins:List (Addr × Obj))(σ:St)(E:XK)(e:Value)(s':Shared):Prop:=∃ H1 s1,Inv X pins σ H1 s1/\CXE X.prog X.w X.stack H1 s1 E e s'
def PEx (X:Cx)(e:Expr)(t:XK->TE):Prop:=
 ∀ (pins:List (Addr × Obj)) (s:Shared) (σ:St) (H:Hp) (Q:VK) (E:XK),Inv X pins σ H s->t E σ H Q->wpAny (model X.prog X.w) X.A (eval e X.env) (EP X pins σ Q) (XIn X pins σ E) s
def PSx (X:Cx)(st:Stmt)(t:XK->TS):Prop:=
 ∀ (pins:List (Addr × Obj)) (s:Shared) (σ:St) (H:Hp) (D:b0y) (E:XK),Inv X pins σ H s->t E D σ H->wpAny (model X.prog X.w) X.A (exec st X.env) (SP X pins D) (XIn X pins σ E) s
section
variable {X:Cx}{k j:Nat}{ps:List Str}{sp:Sp}{x:Str}{p pos:Pos}{e:Expr}{es:List Expr}{t:TA}
theorem pex_fn (c:Cal X.prog X.w X.K X.mg X.base (CXE X.prog X.w) k x ps sp)(hr:a9v j X.A)(ha:PA X.nox (e :: es) t)(hk:k <= j:=by decide)(hg:Gl X x:=by rfl)(hdb:(x == ("__debug__":Str)) = false:=by decide)
  (he:starEach (e :: es) X.env=(false,eval e X.env) :: starEach es X.env:=by rfl) (hpl:(backTo pos (starEach es X.env)).any (·.1) = false:=by rfl) :
  PEx X (.Call (.Name x p) (e :: es) [] pos) (fun E=>tCall sp [] E t):=by
 intro pins s σ H Q E I h;obtain ⟨f,fd,F,hb,kp,hm⟩:=c.ex;refine wpAny_Call_Name_kw (b3c I hg hm ?_ hdb);refine PySem.W.callWith_K (h₀:=X.base) I.ok.mod.kin kp (wpAny_mono (ha pos pins s σ H _ (I.wish _) h) (fun us s1 ⟨vs,H1,I1,r,q⟩=>⟨I1.kIn,?_⟩) fun _ _ z=>z.elim) he hpl;have I1':Inv X pins σ H1 s1:=I1.unwish;have r2:a2t (vs ++ []) (us ++ []):=r.append .nil;have hl:(us ++ []).length=ps.length:=by rw [<- r2.length]; exact F.len _ _ _ _ q
 refine wpAny_call (codeAny_mono (F.run X.A X.stack s1 H1 ⟨us,[]⟩ (us ++ []) (vs ++ []) Q E (hr.mono hk) I1'.env0 (hb s1 us I1'.kIn hl) r2 q) fun r s' hq=>?_)
 cases r with
 | error e=>exact ⟨H1,s1,I1',hq⟩
 | ok fl=>
  cases fl with
  | ret u=>exact I1'.after hq
  | next=>exact False.elim hq
  | brk=>exact False.elim hq
  | cont=>exact False.elim hq
theorem psx_expr {e:Expr}{te:XK->TE}(he:PEx X e te)(hs:swapsWith e none pos.line X.env=pure false:=by rfl):PSx X (.Expr e pos) (fun E=>tDrop (te E)):=by
 intro pins s σ H D E I h;exact wpAny_Expr_any (thn (he pins s σ H _ E I h) fun v s1 ⟨x,H1,I1,r1,q1⟩=>⟨σ,H1,I1,q1⟩) I.quiet hs
end
def Cx.suite (X:Cx)(ea:Addr):Cx:={ X with A:=X.A.mark (some (.ref ea)),calm:=false,xe:=fun _ _=>False }
section
variable {X:Cx}{pins:List (Addr × Obj)}{σ:St}{H:Hp}{s:Shared}
end
section
variable {X:Cx}{st b₀:Stmt}{suite:List Stmt}{W:Addr}{i:Nat}{y n:Str}{np hpos pos:Pos}{t:XK->TS}{ts:TS}
end
theorem passE0 {X:Cx}:a8d (CXE P w) X E0:=fun _ _ _ _ _ _ _ ⟨_,_,_,_,_,F⟩=>F.want.elim
theorem Fun.okE {mg:Str->Option Value}{x:Str}{st:Stmt}{fd:FuncData}{ps:List Str}{k:Nat}{sp:Sp}(F:Fun K x qual st f fd)(S:a0s N ps (a0k st))(len:∀ vs H Q E,sp vs H Q E->vs.length=ps.length)
  (hbody:∀ (cdv:Value) (A:Around) (outer:List Env) (s:Shared) (H:Hp) (vs:List V) (Q:VK) (E:XK),a9v k (A.deeper (envOfC qual (a0k st) s.heap.objs.size f cdv))->sp vs H Q E->
   ∃ t,PSs (cxOf (CXE P w) P w K mg base N qual (a0k st) f cdv A outer s H E) (a8f st) t/\t { nx:=fun _ H'=>Q .non H',rt:=Q } (start N vs) H):a4p P w K mg base (CXE P w) (k + 1) f fd ps sp:=by
 obtain ⟨oc,od,kV,doc,pm,an,cdv,ct,osl,rfl,lk,hcd⟩:=F.ex;exact fn_of lk hcd S len fun A outer s H vs Q E hr hsp=>hbody cdv A outer s H vs Q E hr hsp
end L2
namespace L2
open PySem PySem.Spec PyProof.Rows PySem.Builtin PySem.Builtin.ObjectAttr PySem.Builtin.Getset_descriptor
section
variable {prog:Program}{w:World}{A:Around}{E:Value->Shared->Prop}{s:Shared}{K:PySem.W.Frag}{a C:Addr}
end
section
variable {X:Cx}
theorem st_raise {D:b0y}{C:Addr}{E:XK}{t:TA}{σ:St}{H:Hp}(h:t σ H fun vs H1=>vs.length <= 1000/\E (.ref C) none H1):tRaise C E t D σ H:=h
end
end L2
namespace Tw
theorem cnt_xor2 (p q:Nat->Bool):∀ k,(cnt (fun i=>p i ^^ q i) k) % 2=(cnt p k + cnt q k) % 2
 | 0=>rfl
 | k + 1=>by
  have h:=cnt_xor2 p q k;rw [cnt,cnt,cnt];cases p k <;> cases q k <;> simp <;> omega
theorem big2 (a b:Nat):∃ k,a < 2 ^ k/\b < 2 ^ k:=⟨a + b,by
  have:=@Nat.lt_two_pow_self (a + b); omega,by
  have:=@Nat.lt_two_pow_self (a + b); omega⟩
theorem a5p (a b:Nat):pop (a ^^^ b) % 2=(pop a + pop b) % 2:=by
 obtain ⟨k,ha,hb⟩:=big2 a b;rw [b1b k _ (a6g ha hb),b1b k _ ha,b1b k _ hb,<- cnt_xor2]
 congr 1
 exact a4c fun i _=>by rw [Nat.testBit_xor]
theorem a3n (a b c:Nat):a &&& (b ^^^ c) = (a &&& b) ^^^ (a &&& c):=by
 apply Nat.eq_of_testBit_eq;intro i;simp only [Nat.testBit_and,Nat.testBit_xor];cases a.testBit i <;> cases b.testBit i <;> cases c.testBit i <;> rfl
theorem a3d (a b c:Nat):(a ^^^ b) &&& c=(a &&& c) ^^^ (b &&& c):=by
 rw [Nat.and_comm,a3n,Nat.and_comm c a,Nat.and_comm c b]
theorem pop_both (x1 z1 x2 z2:Nat):pop ((x1 ^^^ x2) &&& (z1 ^^^ z2)) % 2=(pop (x1 &&& z1) + pop (x2 &&& z2) + pop ((x1 &&& z2) ^^^ (z1 &&& x2))) % 2:=by
 have e:(x1 ^^^ x2) &&& (z1 ^^^ z2) = ((x1 &&& z1) ^^^ (x1 &&& z2)) ^^^ ((x2 &&& z1) ^^^ (x2 &&& z2)):=by
  rw [a3d,a3n,a3n]
 have h1:=a5p ((x1 &&& z1) ^^^ (x1 &&& z2)) ((x2 &&& z1) ^^^ (x2 &&& z2));have h2:=a5p (x1 &&& z1) (x1 &&& z2);have h3:=a5p (x2 &&& z1) (x2 &&& z2);have h4:=a5p (x1 &&& z2) (z1 &&& x2);rw [Nat.and_comm z1 x2] at h4 ⊢;rw [e];omega
theorem pop_meet (z1 z2 x1 b:Nat):(pop (x1 &&& z2) + pop ((z1 ^^^ z2) &&& b)) % 2=(pop (z1 &&& b) + pop (z2 &&& (b ^^^ x1))) % 2:=by
 have h1:=a5p (z1 &&& b) (z2 &&& b);have h2:=a5p (z2 &&& b) (z2 &&& x1);rw [<- a3d] at h1;rw [<- a3n] at h2;rw [Nat.and_comm x1 z2];omega
theorem quart_even {p1 p2 p3 c:Nat}{m:Int}(h:p3 % 2=(p1 + p2 + c) % 2)(hc:c % 2=0):(2 * m + (p1:Int) + (p2:Int) - (p3:Int)) % 2=0:=by omega
theorem quart_half {q:Int}(h:q % 2=0):0 <= q % 4 / 2/\q % 4 / 2 <= 1/\(2 * (q % 4 / 2) - q) % 4=0:=by omega
end Tw
namespace Tw
theorem b3h (b:Bool):bI b=((b.toNat:Nat):Int):=by cases b <;> rfl
end Tw
namespace L2
open PySem PySem.Spec PyProof.Rows
section
variable {K:PySem.W.Frag}{H:Hp}{Q:VK}{σ:St}{ta tb tc:TE}{r r':R2}{n k:Nat}{i:Int}{p q:Bool}{a:Addr}
theorem st_chain (h:ta σ H fun x H1=>tb σ H1 fun y H2=>r x y H2 fun z H3=>∃ k,z=.bl k/\(if k=true then tc σ H3 fun w' H4=>r' y w' H4 Q else Q (.bl false) H3)):tChain r r' ta tb tc σ H Q:=h
theorem st_andB (h:Q (.int (Tw.bI (p && q))) H):rI0 (fun i j=>.int (Builtin.bitAnd i j)) (.int (Tw.bI p)) (.int (Tw.bI q)) H Q:=b8a (by
 rw [Tw.b3h,Tw.b3h,a3t];have e:((p.toNat &&& q.toNat:Nat):Int) = Tw.bI (p && q):=by cases p <;> cases q <;> rfl
 rw [e]; exact h)
theorem st_shlB (c:k <= 1000)(h:Q (.int ((p.toNat * 2 ^ k:Nat):Int)) H):rI CPow (fun i j=>.int (i * 2 ^ j.toNat)) (.int (Tw.bI p)) (.int (k:Int)) H Q:=st_i (cpow_n c (by cases p <;> decide)) (by
 rw [Int.toNat_natCast,Tw.b3h,Tw.pow2_cast,<- Int.natCast_mul]; exact h)
end
section
variable {X:Cx}{K:PySem.W.Frag}
theorem ix_listK (h:X.K=K):IxR X (rIxL K):=h ▸ a6t
theorem op_inK (h:X.K=K):OpR X (compareOp .In) (rIn K false):=h ▸ op_in_seq
end
section
variable {X:Cx}{K:PySem.W.Frag}
end
end L2
namespace L2
open PySem PySem.Spec PyProof.Rows
variable {σ:St}
theorem all_getD (bs:List Bool):(List.range bs.length).all (fun i=>bs.getD i false) = bs.all id:=by
 rw [Bool.eq_iff_iff,List.all_eq_true,List.all_eq_true]
 constructor
 ·intro h b hb;obtain ⟨i,hi,e⟩:=List.getElem_of_mem hb;have:=h i (List.mem_range.mpr hi);rw [List.getD_eq_getElem?_getD,List.getElem?_eq_getElem hi,Option.getD_some,e] at this;exact this
 ·intro h i hi;have hi':=List.mem_range.mp hi;rw [List.getD_eq_getElem?_getD,List.getElem?_eq_getElem hi',Option.getD_some];exact h _ (List.getElem_mem hi')
section
variable {X:Cx}
def rAll (K:PySem.W.Frag):List V->Hp->VK->Prop:=fun xs H Q=>∃ (p:Addr) (bs:List Bool),xs=[.ref p]/\SqL K H p (bs.map V.bl)/\Q (.bl (bs.all id)) H
theorem b0r (hc:X.calm=true):b1s X (.builtin "all") (rAll X.K):=by
 intro pins s σ H xs us Q I r h;obtain ⟨p,bs,rfl,hs,q⟩:=h;obtain ⟨u,rfl,ru⟩:=a2t.one r;cases (show u=Value.ref p from ru);obtain ⟨its,rv,pl,hz⟩:=I.list hs;have hlen:its.length=bs.length:=by rw [<- rv.length,List.length_map]
 have hpl:p < s.heap.objs.size:=by
  obtain ⟨o,n,e,_⟩:=pl;exact Heap.lt_size e
 refine call_all_walk (wpAny_pyIter_list pl.isList ?_);refine ⟨s.heap.objs.size,[s.heap.objs.size,p],[s.heap.objs.size],its.toArray.size,_,_,fun i=>bs.getD i false,rfl,Walks.list (A:=X.A.in1) (I.ok.hd hc) s.heap.objs.size p (Nat.ne_of_lt hpl) its.toArray,⟨⟨_,Heap.get?_push_size _ rfl,rfl,rfl⟩,?_⟩,fun i v s' Q' E' hv hq=>?_,fun h' tk hk=>?_⟩
 ·exact pl.isList.at fun o e=>Heap.get?_push_of_some _ e
 ·have hv':its[i]? = some v:=by simpa using hv
  have hi:i < bs.length:=by
   rw [<- hlen]; exact (List.getElem?_eq_some_iff.mp hv').1
  obtain ⟨u,e1,e2⟩:=rv.get (i:=i) (x:=.bl bs[i]) (by rw [List.getElem?_map,List.getElem?_eq_getElem hi]; rfl);rw [hv'] at e1; cases e1;cases (show v=Value.bool bs[i] from e2);refine wpAny_truthy_bool ?_;dsimp only at hq;rw [List.getD_eq_getElem?_getD,List.getElem?_eq_getElem hi,Option.getD_some] at hq;exact hq
 ·have e:its.toArray.size=bs.length:=by simpa using hlen
  rw [e,all_getD];refine ⟨.bl _,H,I.kept (t':=tk) (h':=h') fun b o eb=>hk b o (fun z=>?_) (Heap.get?_push_of_some _ eb),rfl,q⟩;have:b=s.heap.objs.size:=by simpa using z
  exact Nat.lt_irrefl _ (this ▸ Heap.lt_size eb)
theorem Inv.bigD {pins:List (Addr × Obj)}{H:Hp}{s:Shared}(I:Inv X pins σ H s):sysModules < s.heap.objs.size:=by
 have h:mainGlobals < s.heap.objs.size:=(I.mod.glob.keeps I.bk).lt;exact Nat.lt_trans (by decide) h
def tDNew:TE:=fun _ H Q=>∀ p,H p=none->Q (.ref p) (upd H p (.dK []))
theorem pe_dnew {pos:Pos}:PE X (.Dict [] [] pos) tDNew:=fun pins s σ H Q I h=>
 wpAny_Dict_empty ⟨.ref s.heap.objs.size,_,I.laid (a:=s.heap.objs.size) (o:=.dK []) (t':=s.toks) (fun _ _ q=>Heap.get?_push_of_some _ q) (Nat.le_refl _) ⟨Nat.zero_le _,beq_eq_false_iff_ne.mpr (Ne.symm (Nat.ne_of_lt I.bigD)),[],.nil,Heap.DictOf.new s.heap⟩,rfl,h _ (I.hok.fresh (Nat.le_refl _))⟩
end
section
variable {K:PySem.W.Frag}{H:Hp}{Q:VK}{a:Addr}{xs:List V}
theorem st_all {bs:List Bool}(s:SqL K H a (bs.map V.bl))(q:Q (.bl (bs.all id)) H):rAll K [.ref a] H Q:=⟨a,bs,rfl,s,q⟩
theorem st_yes {R:Bool->Hp->Prop}(h:R true H):tYes σ H R:=h
theorem st_comp_tup {tl:TE}{tt:TT}{te:TE}(e:∀ P:V->Hp->Prop,P (.ref a) H->tl σ H P)(s:SqT K H a xs)(Pv:Nat->List V->Hp->Prop)(hn:xs.length <= 1000)(h0:Pv 0 [] H)(hl:∀ i ys H,Pv i ys H->ys.length <= i)(hk:∀ i ys H,Pv i ys H->SqT K H a xs)
  (hs:∀ i x ys H,xs[i]? = some x->Pv i ys H->tt (some x :: σ) H fun b H2=>if b=true then te (some x :: σ) H2 fun y H3=>Pv (i + 1) (ys ++ [y]) H3 else Pv (i + 1) ys H2)
  (hd:∀ ys H,Pv xs.length ys H->∀ p,H p=none->Q (.ref p) (upd H p (.lst ys))):tComp (iTup K tl) tt te σ H Q:=
 e _ ⟨a,rfl,⟨xs,s⟩,comp_tup Pv hn h0 hl hk hs hd⟩
theorem st_dnew (q:∀ p,H p=none->Q (.ref p) (upd H p (.dK []))):tDNew σ H Q:=q
end
end L2
namespace L2
open PySem PySem.Spec PyProof.Rows
variable {elts:List Expr}{kk:Nat}{tpos:Pos}{P:Program}{tl:TE}{w:World}
theorem kv_get:∀ {kvs:List (Key × V)} {vs:List (Key × Value)},KV kvs vs->∀ {i:Nat} {k:Key} {x:V},kvs[i]? = some (k,x)->∃ v,vs[i]? = some (k,v)/\a2s x v:=by
 intro kvs vs r
 induction r with
 | nil=>intro i k x h; simp at h
 | @cons p q ps qs h t ih=>
  intro i k x e
  cases i with
  | zero=>
   obtain ⟨h1,h2⟩:=h;have e':p=(k,x):=by simpa using e
   subst e';exact ⟨q.2,by rw [List.getElem?_cons_zero]; cases q; cases h1; rfl,h2⟩
  | succ i=>
   obtain ⟨v,e1,e2⟩:=ih (by simpa using e);exact ⟨v,by simpa using e1,e2⟩
theorem key_rel {k:Key}{u:Value}(h:(a1f P w).is k u=true):a2s (kV k) u:=by
 rcases a1s (show keyIs k u=true from h) with ⟨i,t,rfl,rfl⟩ | ⟨x,t,rfl,rfl⟩
 ·exact ⟨t,rfl⟩
 ·exact ⟨t,rfl⟩
section
variable {X:Cx}{pins:List (Addr × Obj)}{σ:St}{H:Hp}{s:Shared}{a:Addr}{kvs:List (Key × V)}{o:Obj}
theorem Inv.freeze (I:Inv X pins σ H s)(e:H a=some (.dK kvs))(ho:s.heap.get? a=some o):Inv X pins σ (upd H a (.frz o (.dK kvs))) s:=by
 have x:a2w X.prog X.w H s.heap a (.dK kvs):=I.hok a _ e;exact I.write (x:=a) (e:=a) (t':=s.toks) (h':=s.heap) (by rw [e]; exact True.intro) (.inl rfl) (fun b u _ q=>q) ⟨o,ho⟩ ⟨ho,x⟩
theorem Inv.thaw (I:Inv X pins σ H s)(h0:∀ o u,X.H₀ a ≠ some (.frz o u))(e:H a=some (.frz o (.dK kvs))):Inv X pins σ (upd H a (.dK kvs)) s:=by
 have na:∀ {b:Addr},H b=none->b ≠ a:=fun {b} q z=>by subst z; rw [q] at e; cases e
 have x:s.heap.get? a=some o/\a2w X.prog X.w H s.heap a (.dK kvs):=I.hok a _ e;refine ⟨I.ok,I.os,I.bare,⟨I.base.keep,I.base.slot,fun b ob q n hx=>?_,I.base.there,fun b xs q=>?_,fun b ob u q=>?_,fun b ps q=>?_⟩,I.loc,I.cell,?_,fun y c q=>?_,fun p hp=>?_,fun b u q=>?_,I.len⟩
 ·have:=I.base.free b ob q n hx;rw [a0m (na this)]; exact this
 ·have h1:=I.base.tups b xs q;have:b ≠ a:=fun z=>by subst z; rw [h1] at e; cases e
  rw [a0m this]; exact h1
 ·have h1:=I.base.frzs b ob u q;have:b ≠ a:=fun z=>by subst z; exact h0 _ _ q
  rw [a0m this]; exact h1
 ·obtain ⟨more,h1⟩:=I.base.tbls b ps q;have:b ≠ a:=fun z=>by subst z; rw [h1] at e; cases e
  exact ⟨more,by rw [a0m this]; exact h1⟩
 ·rw [a0m (na I.free)]; exact I.free
 ·rw [a0m (na (I.freeC y c q))]; exact I.freeC y c q
 ·obtain ⟨h1,h2,h3⟩:=I.pin p hp;exact ⟨h1,by rw [a0m (na h2)]; exact h2,h3⟩
 ·by_cases hb:b=a
  ·subst hb;rw [a0c] at q; cases q;exact x.2
  ·rw [a0m hb] at q;exact (I.hok b u q).stay (fun c v _ r=>r) (fun c r=>by rw [a0m (fun z=>by subst z; rw [r] at e; cases e)]; exact r) fun c xs r=>by rw [a0m (fun z=>by subst z; rw [r] at e; cases e)]; exact r
end
def Itd (a:Addr)(o:Obj)(kvs:List (Key × V)):It:=
 ⟨fun i H=>H a=some (.frz o (.dK kvs))/\i < kvs.length,fun i H x H'=>∃ T k v,H T=none/\x=.ref T/\kvs[i]? = some (k,v)/\H' = upd H T (.tup [kV k,v]),fun i H=>H a=some (.frz o (.dK kvs))/\kvs.length <= i⟩
theorem b5x {K:PySem.W.Frag}(a it:Addr)(o:Obj)(kvs:List (Key × V)){es:Array DictEntry}{ep:Nat}(hep:o.data=.dict es ep) :
  Turn P w K (.Tuple elts kk tpos) (Itd a o kvs) [it] it (fun i h=>(∃ ok ov,IsItemIter h it a i kvs.length ep ok ov)/\i <= kvs.length) where
 mem:=by simp
 obj:=fun i h st b hb=>by
  have e:b=it:=by simpa using hb
  subst e;obtain ⟨⟨ok,ov,q⟩,_⟩:=st
  exact ⟨_,q,fun v z=>by
   have z':Data.fields _=Data.cell v:=z
   cases z'⟩
 keep:=fun i h h' st k=>by
  obtain ⟨⟨ok,ov,q⟩,l⟩:=st;exact ⟨⟨ok,ov,k it (by simp) _ q⟩,l⟩
 item:=by
  intro X hP hw hK hc i pins s σ H E I hf st hg;subst hP hw hK;obtain ⟨hz,hi⟩:=hg;obtain ⟨f0,f1,f2,f3,f4,f5⟩:=hf it (by simp);obtain ⟨⟨ok,ov,hit⟩,_⟩:=st;obtain ⟨go,_,_,vs,rel,o',es',ep',g',ex,hd',r'⟩:=(show a2w X.prog X.w H s.heap a (.frz o (.dK kvs)) from I.hok a _ hz);rw [go] at g'; cases g';rw [hep] at hd'; cases hd';have hm:s.heap.DictAt (a1f X.prog X.w) a vs ep:=⟨o,es,go,ex,hep,r'⟩;have hl:vs.length=kvs.length:=rel.length.symm;obtain ⟨k,x,hx⟩:∃ k x,kvs[i]? = some (k,x):=⟨_,_,List.getElem?_eq_getElem hi⟩;obtain ⟨v,hv,rv⟩:=kv_get rel hx;rw [<- hl] at hit;refine wpAny_pyNext_items_item (knd:=a1f X.prog X.w) hit hm hv fun key h' hkey hout htup hsz hkeep=>⟨_,rfl,wpAny_letOwnedTupleGo_items hout fun h2 hit2 hsb=>?_⟩;have hT:H s.heap.objs.size=none:=I.hok.fresh (Nat.le_refl _);have hil:it ≠ s.heap.objs.size:=Nat.ne_of_lt (Heap.lt_size hit);have kept:∀ b o,b ≠ it->s.heap.get? b=some o->h2.get? b=some o:=fun b o hb q=>hsb.extBut b o hb (hkeep b o hb q);have eT:h2.get? s.heap.objs.size=some { cls:=.type "tuple",data:=.seq #[key,v] }:=hsb.extBut _ _ (Ne.symm hil) htup;have ntr:∀ b u,H b=some u->b ≠ it:=fun b u q z=>by rw [z,f0] at q; cases q
  have bT:∀ b o,s.heap.get? b=some o->b ≠ s.heap.objs.size:=fun b o q=>Nat.ne_of_lt (Heap.lt_size q);have nit:∀ b,b ∉ [it]->b ≠ it:=fun b hb z=>hb (by simp [z])
  have un:Un (frs X.stack) [it] H (upd H s.heap.objs.size (.tup [kV k,x])) s.heap h2:=
   ⟨fun b o q _ _ n3=>kept b o (nit b n3) q,fun b o q _ _ n3=>⟨o.slots,kept b o (nit b n3) q⟩,fun b o q n _=>by rw [a0m (bT b o q)]; exact n,fun b o q n3=>⟨o,kept b o (nit b n3) q⟩,
    fun b xs q=>by rw [a0m (a0h q hT)]; exact q,fun b o v q=>by rw [a0m (a0h q hT)]; exact q,fun b ps q=>⟨#[],by rw [a0m (a0h q hT),q]; simp⟩⟩
  have hok:HOk X.prog X.w (upd H s.heap.objs.size (.tup [kV k,x])) h2:=fun b u q=>by
   by_cases hb:b=s.heap.objs.size
   ·subst hb;rw [a0c] at q; cases q;exact ⟨Nat.le_of_lt (a2j (show (2:Nat) <= 1000 by decide)),[key,v],.cons (key_rel hkey) (.cons rv .nil),_,eT,rfl,_,rfl⟩
   ·rw [a0m hb] at q;refine (I.hok b u q).stay (fun c' v' hc2 q'=>?_) (fun c' q'=>by rw [a0m (a0h q' hT)]; exact q') fun c' xs q'=>by rw [a0m (a0h q' hT)]; exact q'
    rcases hc2 with r | r
    ·subst r; exact kept _ _ (ntr _ _ q) q'
    ·exact kept _ _ (ntr _ _ r) q'
  refine ⟨.ref s.heap.objs.size,_,I.call' (s':={ s with heap:=h2 }) rfl un hok I.bare (fun b hb=>?_),rfl,⟨_,k,x,hT,rfl,hx,rfl⟩,⟨⟨_,_,by rw [<- hl]; exact hit2⟩,hi⟩,fun b hb=>?_⟩
  ·have e:b=it:=by simpa using hb
   subst e;exact ⟨f3,f1,f4,f5⟩
  ·have e:b=it:=by simpa using hb
   subst e;rw [a0m hil]; exact f0
 done:=by
  intro X hP hw hK hc i pins s σ H E I hf st hg;subst hP hw hK;obtain ⟨hz,hi⟩:=hg;obtain ⟨f0,f1,f2,f3,f4,f5⟩:=hf it (by simp);obtain ⟨⟨ok,ov,hit⟩,_⟩:=st;obtain ⟨go,_,_,vs,rel,o',es',ep',g',ex,hd',r'⟩:=(show a2w X.prog X.w H s.heap a (.frz o (.dK kvs)) from I.hok a _ hz);rw [go] at g'; cases g';rw [hep] at hd'; cases hd';have hm:s.heap.DictAt (a1f X.prog X.w) a vs ep:=⟨o,es,go,ex,hep,r'⟩;have hl:vs.length=kvs.length:=rel.length.symm;rw [<- hl] at hit;exact wpAny_pyNext_items_end (knd:=a1f X.prog X.w) (I.ok.hd hc) hit hm (List.getElem?_eq_none (by omega)) fun h' eb=>⟨rfl,I.turned (t':=s.toks) (fun b o hb e=>eb b o (by simpa using hb) e) f0 f1 f3 f4 f5⟩
 self:=fun _ _ _ _ _ st h=>by
  obtain ⟨⟨ok,ov,q⟩,_⟩:=st;exact PySem.W.kcp_self q h
section
variable {X:Cx}
def iItems (tl:TE):TI:=fun σ H R=>tl σ H fun x H1=>∃ a kvs,x=.ref a/\((H1 a=some (.dK kvs)/\∀ o,R (Itd a o kvs) (upd H1 a (.frz o (.dK kvs))))\/∃ o,H1 a=some (.frz o (.dK kvs))/\R (Itd a o kvs) H1)
theorem pi_items {l:Expr}{apos cpos:Pos}(hl:PE X l tl)(hbase:attributeBase l "items" X.env (eval l X.env) = eval l X.env:=by rfl)(hline:(apos.endLine == cpos.line) = true:=by rfl) :
  PI X (.Tuple elts kk tpos) (.Call (.Attribute l "items" apos) [] [] cpos) (iItems tl):=by
 intro pins s σ H R I h;refine wpAny_Call_method0_late hbase hline (thn (hl pins s σ H _ I h) fun v s1 ⟨x,H1,I1,r1,q1⟩=>?_);obtain ⟨a,kvs,rfl,q⟩:=q1;cases r1
 have rd:Rd H1 a (.dK kvs):=by
  rcases q with ⟨e,_⟩ | ⟨o,e,_⟩
  ·exact .inl e
  ·exact .inr ⟨o,e⟩
 obtain ⟨z,hsy,vs,rel,dd⟩:=dk_rd I1.hok rd;obtain ⟨o,es,ep,go,ex,hd,r'⟩:=id dd;refine ⟨"dict","dict.items",PySem.F.plainAttrs_dict,PySem.F.slot_dict_items,PySem.F.type_dict_items,⟨o,go,ex.1⟩,fun b e=>by cases e; exact ⟨o,go,ex.2.1⟩,Calls.callWith_builtin rfl (PySem.evalArgs_none ?_)⟩;refine call_meetsIn PySem.F.slot_dict_items dd.typeIs PySem.F.entry_dict_items (PySem.F.args_dict_items_1 _) (meets_dict_items (a1f X.prog X.w) a hsy) ⟨⟨vs,dd⟩,?_⟩;have I2:Inv X pins σ H1 { s1 with heap:=s1.heap.push { cls:=.type "dict_items",data:=.fields #[.ref a] } }:=I1.kept (t':=s1.toks) fun b ob e=>Heap.get?_push_of_some _ e;have hm:s1.heap.DictAt (a1f X.prog X.w) a vs ep:=⟨o,es,go,ex,hd,r'⟩;refine wpAny_pyIter_items (knd:=a1f X.prog X.w) (d:=a) (kvs:=vs) (ep:=ep) ⟨_,Heap.get?_push_size _ rfl,rfl,rfl⟩ (hm.push _) ?_;dsimp only;generalize hG:s1.heap.push { cls:=.type "dict_items",data:=.fields #[.ref a] } = G at I2 ⊢;have goG:G.get? a=some o:=by rw [<- hG]; exact Heap.get?_push_of_some _ go
 have I3:∀ H2,Inv X pins σ H2 { s1 with heap:=G }->Inv X pins σ H2 { s1 with heap:=G.push { cls:=.type "dict_itemiterator",data:=.fields #[.none,.bool false,.ref a,.int 0 0,.int vs.length 0,.int ep 0,.none,.none] } }:=fun H2 J=>J.kept (t':=s1.toks) fun b ob e=>Heap.get?_push_of_some _ e;have hln:vs.length=kvs.length:=rel.length.symm
 have st:∀ i,i=0->(∃ ok ov,IsItemIter (G.push { cls:=.type "dict_itemiterator",data:=.fields #[.none,.bool false,.ref a,.int 0 0,.int vs.length 0,.int ep 0,.none,.none] }) G.objs.size a i kvs.length ep ok ov)/\i <= kvs.length:=fun i hi=>by
  subst hi;refine ⟨⟨.none,.none,?_⟩,Nat.zero_le _⟩;rw [<- hln];exact Heap.get?_push_size _ rfl
 rcases q with ⟨e,q⟩ | ⟨o2,e,q⟩
 ·have J:=I2.freeze e goG;refine ⟨G.objs.size,[G.objs.size],_,_,_,rfl,I3 _ J,b5x a _ o kvs hd,st 0 rfl,fun b hb=>?_,q o⟩;have e:b=G.objs.size:=by simpa using hb
  subst e;exact J.fpOk (Nat.le_refl _) (J.hok.fresh (Nat.le_refl _))
 ·have x:s1.heap.get? a=some o2:=(show s1.heap.get? a=some o2/\_ from I1.hok a _ e).1;rw [go] at x; cases x;refine ⟨G.objs.size,[G.objs.size],_,_,_,rfl,I3 _ I2,b5x a _ o kvs hd,st 0 rfl,fun b hb=>?_,q⟩;have e:b=G.objs.size:=by simpa using hb
  subst e;exact I2.fpOk (Nat.le_refl _) (I2.hok.fresh (Nat.le_refl _))
def b0y.thaw (a:Addr)(kvs:List (Key × V))(D:b0y):b0y:=
 ⟨fun σ H=>∃ o,H a=some (.frz o (.dK kvs))/\D.nx σ (upd H a (.dK kvs)),fun v H=>∃ o,H a=some (.frz o (.dK kvs))/\D.rt v (upd H a (.dK kvs)),
  fun σ H=>∃ o,H a=some (.frz o (.dK kvs))/\D.bk σ (upd H a (.dK kvs)),fun σ H=>∃ o,H a=some (.frz o (.dK kvs))/\D.ct σ (upd H a (.dK kvs))⟩
def tThaw (t:TS):TS:=fun D σ H=>t D σ H\/∃ a kvs,H a=some (.dK kvs)/\t (D.thaw a kvs) σ H
theorem ps_thaw {st:Stmt}{t:TS}(h:PS X st t):PS X st (tThaw t):=by
 intro pins s σ H D I q
 rcases q with q | ⟨a,kvs,e,q⟩
 ·exact h pins s σ H D I q
 have h0:∀ o u,X.H₀ a ≠ some (.frz o u):=fun o u z=>by
  have:=I.base.frzs a o u z;rw [e] at this; cases this
 refine thn (h pins s σ H _ I q) fun f s1 q1=>?_
 cases f with
 | next=>obtain ⟨σ1,H1,I1,o,e1,q1⟩:=q1; exact ⟨σ1,_,I1.thaw h0 e1,q1⟩
 | brk=>obtain ⟨σ1,H1,I1,o,e1,q1⟩:=q1; exact ⟨σ1,_,I1.thaw h0 e1,q1⟩
 | cont=>obtain ⟨σ1,H1,I1,o,e1,q1⟩:=q1; exact ⟨σ1,_,I1.thaw h0 e1,q1⟩
 | ret u=>obtain ⟨v,σ1,H1,I1,r1,o,e1,q1⟩:=q1; exact ⟨v,σ1,_,I1.thaw h0 e1,r1,q1⟩
end
theorem st_for_items {g:TG}{tb:TS}{D:b0y}{σ:St}{H:Hp}{a:Addr}{kvs:List (Key × V)}(e:∀ P:V->Hp->Prop,P (.ref a) H->tl σ H P)(h:H a=some (.dK kvs))(Pv:Obj->Nat->St->Hp->Prop)
  (h0:∀ o,Pv o 0 σ (upd H a (.frz o (.dK kvs)))) (hk:∀ o i σ H,Pv o i σ H->H a=some (.frz o (.dK kvs)))
  (hs:∀ o i k v σ H p,kvs[i]? = some (k,v)->Pv o i σ H->H p=none->g (.ref p) σ (upd H p (.tup [kV k,v])) fun σ2 H2=>tb { D.thaw a kvs with nx:=Pv o (i + 1),ct:=Pv o (i + 1),bk:=(D.thaw a kvs).nx } σ2 H2)
  (hd:∀ o σ H,Pv o kvs.length σ H->D.nx σ (upd H a (.dK kvs))):tThaw (tFor (iItems tl) g tb) D σ H:=by
 refine .inr ⟨a,kvs,h,e _ ⟨a,kvs,rfl,.inl ⟨h,fun o=>⟨fun i m σ H=>m=kvs.length - i/\i <= kvs.length/\Pv o i σ H,⟨kvs.length,by simp,Nat.zero_le _,h0 o⟩,?_⟩⟩⟩⟩;rintro i m σ H ⟨rfl,hi,p⟩
 by_cases hlt:i < kvs.length
 ·refine .inr ⟨⟨hk o i σ H p,hlt⟩,Pv o (i + 1),fun σ' H' p'=>⟨kvs.length - (i + 1),by omega,rfl,hlt,p'⟩,fun x H' y=>?_⟩;obtain ⟨A,k,v,hA,rfl,hx,rfl⟩:=y;exact hs o i k v σ H A hx p hA
 ·have e:i=kvs.length:=by omega
  subst e;exact .inl ⟨⟨hk o _ σ H p,Nat.le_refl _⟩,o,hk o _ σ H p,hd o σ H p⟩
end L2
set_option maxHeartbeats 1000000
namespace L2
open PySem PySem.Spec PyProof.Rows
open PySem.SeqAt (EqAt)
section
variable {prog:Program}{w:World}{A:Around}{E:Value->Shared->Prop}{s:Shared}{a b:Addr}{kvs kvs2:List (Key × Value)}{nm:String}
end
section
variable {X:Cx}{pins:List (Addr × Obj)}{σ:St}{H:Hp}{s:Shared}{a b:Addr}{kvs kvs2:List (Key × V)}{f g:Key->PyData}
end
end L2
namespace L2
open PySem PySem.Spec PyProof.Rows
section
variable {X:Cx}
end
section
variable {K:PySem.W.Frag}{H:Hp}{Q:VK}{a b:Addr}{kvs kvs2:List (Key × V)}{σ:St}{td ty tx tv:TE}
abbrev atZ (kvs:List (Key × V))(i:Int):Option V:=valV kvs (.inl i)
theorem dget_z {i:Int}(h:Rd H a (.dK kvs)):DGet H a (.int i) (atZ kvs i):=.inl ⟨kvs,.inl i,h,rfl,rfl⟩
theorem dput_z {i:Int}{v:V}(h:H a=some (.dK kvs))(hl:kvs.length <= 1000):DPut H a (.int i) v (upd H a (.dK (b7h kvs (.inl i) v))):=.inl ⟨kvs,.inl i,h,rfl,a2j hl,rfl⟩
theorem st_dget2 (h:td σ H fun x H1=>∃ a,x=.ref a/\IsD H1 a/\ty σ H1 fun y H2=>tx σ H2 fun z H3=>∃ o,DGet H3 a y o/\Q (o.getD z) H3):tDGet2 td ty tx σ H Q:=h
theorem st_dput {D:b0y}(h:tv σ H fun v H1=>td σ H1 fun x H2=>ty σ H2 fun y H3=>∃ a H4,x=.ref a/\DPut H3 a y v H4/\D.nx σ H4):sDPut td ty tv D σ H:=h
end
end L2
namespace L2
open PySem PySem.Spec PyProof.Rows
structure KCal (P:Program)(w:World)(K:PySem.W.Frag)(mg:Str->Option Value)(base:Heap)(CX:CXT)(k:Nat)(x:Str)(C:Addr)(ps:List Str)(sp:Sp):Prop where
 ex:∃ f fd,Mk K C f/\a4p P w K mg base CX k f fd ps sp/\b4a K fd ps []/\mg x=some (.ref C)
structure MCal (P:Program)(w:World)(K:PySem.W.Frag)(mg:Str->Option Value)(base:Heap)(CX:CXT)(k:Nat)(C:Addr)(m:Str)(ps:List Str)(sp:Sp):Prop where
 cl:Cls K C
 ex:∃ f fd,Meth K C m f/\a4p P w K mg base CX k f fd ps sp/\b4a K fd ps []
section
variable {X:Cx}{CX:CXT}{j k:Nat}{C:Addr}{ps:List Str}{sp:Sp}{E:XK}{x m:Str}{p pos apos:Pos}{e o:Expr}{es:List Expr}{ta:TE}{t:TA}
theorem pe_new (c:KCal X.prog X.w X.K X.mg X.base CX k x C ps sp)(hr:a9v j X.A)(hx:a8d CX X E)(ha:PA X (e :: es) t)(hk:k + 1 <= j:=by decide)(hg:Gl X x:=by rfl)(hdb:(x == ("__debug__":Str)) = false:=by decide)
  (he:starEach (e :: es) X.env=(false,eval e X.env) :: starEach es X.env:=by rfl) (hpl:(backTo pos (starEach es X.env)).any (·.1) = false:=by rfl) :
  PE X (.Call (.Name x p) (e :: es) [] pos) (tMake C sp [] E t):=by
 obtain ⟨f,fd,M,F,b,m⟩:=c.ex;exact pe_make M F (hr.mono hk) hg m b .nil hx ha hdb he hpl
end
theorem b5w:∀ {ns:List Int} {us:List Value},a2t (ns.map V.int) us->∃ xs:Array (Int × Tok),us.toArray=intItems xs/\xs.toList.map (·.1) = ns
 | [],[],_=>⟨#[],by simp [intItems],rfl⟩
 | n :: ns,u :: us,r=>by
  cases r with
  | cons r1 r2=>
   obtain ⟨t,rfl⟩:=r1;obtain ⟨xs,e1,e2⟩:=b5w r2;refine ⟨((n,t) :: xs.toList).toArray,?_,?_⟩
   ·have e3:us=(intItems xs).toList:=by rw [<- e1]
    rw [e3];simp [intItems]
   ·simp [e2]
section
variable {X:Cx}{s:Shared}{A:Around}{E:Value->Shared->Prop}
end
def tMethD {ι:Type}(CD:ι->Addr)(spm:ι->Sp)(m:Str)(E:XK)(ta:TE)(t:TA):TE:=fun σ H Q=>ta σ H fun x H1=>∃ a d dx fs,x=.ref a/\H1 a=some (.ins (CD d) dx fs)/\fs.lookup m=none/\t σ H1 fun vs H2=>spm d (x :: vs) H2 Q E
section
variable {X:Cx}{CX:CXT}{j k:Nat}{ι:Type}{CD:ι->Addr}{spm:ι->Sp}{ps:List Str}{E:XK}{m:Str}{pos apos:Pos}{e o:Expr}{es:List Expr}{ta:TE}{t:TA}
theorem pe_md {pl:Sem Bool}(hM:∀ d,MCal X.prog X.w X.K X.mg X.base CX k (CD d) m ps (spm d))(hr:a9v j X.A)(hx:a8d CX X E)(he:PE X o ta)(ha:PA X (e :: es) t)(hk:k <= j:=by decide)
  (hst:starEach (e :: es) X.env=(false,eval e X.env) :: starEach es X.env:=by rfl) (hpl:(backTo pos (starEach es X.env)).any (·.1) = false:=by rfl)
  (ht:eval (.Call (.Attribute o m apos) (e :: es) [] pos) X.env=(do
   let ov <- eval o X.env
   standAt apos.atName
   let (f,first) <- holding [ov] (getMethod ov m pl)
   callWith pos f first (backTo pos (starEach (e :: es) X.env)) (backToKw pos (keywordEach [] X.env))):=by rfl) :
  PE X (.Call (.Attribute o m apos) (e :: es) [] pos) (tMethD CD spm m E ta t):=by
 intro pins s σ H Q I h;refine PySem.W.methodCall_KW (pl:=pl) (thn (he pins s σ H _ I h) fun u s1 ⟨x,H1,I1,rx,a,d,dx,fs,ex,ea,l,q⟩=>?_) ht;subst ex;obtain rfl:u=Value.ref a:=rx;have M:=hM d;obtain ⟨f,fd,hm,F,b⟩:=M.ex;refine b6c I1 ea M.cl hm l ?_;refine PySem.W.callWith_K (first:=[.ref a]) (h₀:=X.base) I.ok.mod.kin hm.kp (thn (ha pos pins s1 σ H1 _ I1 q) fun us s2 ⟨vs,H2,I2,r,q2⟩=>⟨I2.kIn,?_⟩) hst hpl;exact run_fn (us:=.ref a :: us) (vs:=.ref a :: vs) (dvs:=[]) F (hr.mono hk) b .nil hx I2 (.cons rfl r) (by rw [List.append_nil]; exact q2)
theorem pe_md0 {pl:Sem Bool}(hM:∀ d,MCal X.prog X.w X.K X.mg X.base CX k (CD d) m ps (spm d))(hr:a9v j X.A)(hx:a8d CX X E)(he:PE X o ta)(hk:k <= j:=by decide)
  (ht:eval (.Call (.Attribute o m apos) [] [] pos) X.env=(do
   let ov <- eval o X.env
   standAt apos.atName
   let (f,first) <- holding [ov] (getMethod ov m pl)
   callWith pos f first (backTo pos (starEach [] X.env)) (backToKw pos (keywordEach [] X.env))):=by rfl) :
  PE X (.Call (.Attribute o m apos) [] [] pos) (tMethD CD spm m E ta tNil):=by
 intro pins s σ H Q I h;refine PySem.W.methodCall_KW (pl:=pl) (thn (he pins s σ H _ I h) fun u s1 ⟨x,H1,I1,rx,a,d,dx,fs,ex,ea,l,q⟩=>?_) ht;subst ex;obtain rfl:u=Value.ref a:=rx;have M:=hM d;obtain ⟨f,fd,hm,F,b⟩:=M.ex;refine b6c I1 ea M.cl hm l ?_;exact PySem.W.callWith_K0 (first:=[.ref a]) I1.kIn hm.kp (run_fn (us:=[.ref a]) (vs:=[.ref a]) (dvs:=[]) F (hr.mono hk) b .nil hx I1 (.cons rfl .nil) q)
end
section
variable {X:Cx}
end
theorem boot_max:bootBuiltins "max" = some (.builtin "max"):=by decide +kernel
section
variable {K:PySem.W.Frag}{H:Hp}{Q:VK}{σ:St}{D:b0y}{te ta tv:TE}{tA:TA}{f m:Str}{a C dx:Addr}{fs:List (Str × V)}{v:V}
def rFld (K:PySem.W.Frag)(f:Str)(x:V)(H1:Hp)(Q:VK):Prop:=∃ a C dx fs v,x=.ref a/\H1 a=some (.ins C dx fs)/\Cls K C/\a7n K C f/\fs.lookup f=some v/\Q v H1
theorem st_fld (h:ta σ H fun x H1=>rFld K f x H1 Q):tFld K ta f σ H Q:=h
theorem b3x (e:H a=some (.ins C dx fs))(c:Cls K C)(n:a7n K C f)(l:fs.lookup f=some v)(q:Q v H):rFld K f (.ref a) H Q:=⟨a,C,dx,fs,v,rfl,e,c,n,l,q⟩
def rPut (K:PySem.W.Frag)(f:Str)(D:b0y)(σ:St)(y x:V)(H2:Hp):Prop:=∃ a C dx fs,x=.ref a/\H2 a=some (.ins C dx fs)/\Cls K C/\a7n K C f/\fs.length < 1000/\D.nx σ (upd H2 a (.ins C dx (b3j f y fs)))
theorem st_put (h:tv σ H fun y H1=>ta σ H1 fun x H2=>rPut K f D σ y x H2):sFld K ta tv f D σ H:=h
theorem st_put1 {y:V}(e:H a=some (.ins C dx fs))(c:Cls K C)(n:a7n K C f)(l:fs.length < 1000)(q:D.nx σ (upd H a (.ins C dx (b3j f y fs)))):rPut K f D σ y (.ref a) H:=⟨a,C,dx,fs,rfl,e,c,n,l,q⟩
theorem st_make {sp:Sp}{dvs:List V}{E:XK}(h:tA σ H fun vs H1=>∀ x dx,H1 x=none->H1 dx=none->dx ≠ x->sp (.ref x :: (vs ++ dvs)) (upd (upd H1 dx (.own x)) x (.ins C dx [])) (fun v H2=>v=.non/\Q (.ref x) H2) E):tMake C sp dvs E tA σ H Q:=h
def rMeth {ι:Type}(CD:ι->Addr)(m:Str)(x:V)(H1:Hp)(R:ι->Prop):Prop:=∃ a d dx fs,x=.ref a/\H1 a=some (.ins (CD d) dx fs)/\fs.lookup m=none/\R d
theorem st_md {ι:Type}{CD:ι->Addr}{spm:ι->Sp}{E:XK}(h:ta σ H fun x H1=>rMeth CD m x H1 fun d=>tA σ H1 fun vs H2=>spm d (x :: vs) H2 Q E):tMethD CD spm m E ta tA σ H Q:=h
theorem st_md1 {ι:Type}{CD:ι->Addr}{R:ι->Prop}{d:ι}(e:H a=some (.ins (CD d) dx fs))(l:fs.lookup m=none)(q:R d):rMeth CD m (.ref a) H R:=⟨a,d,dx,fs,rfl,e,l,q⟩
end
end L2
namespace L2
open PySem PySem.Spec PyProof.Rows
section
variable {X:Cx}{M:List Str}{pins:List (Addr × Obj)}{σ:St}{H:Hp}{s:Shared}{scope:Scope}{x x2:Str}
end
def tComp2 (K:PySem.W.Frag)(wi:TI)(tt:TT)(te:TE):TE:=fun σ H Q=>wi σ H fun J H1=>∃ W:Nat->Nat->List V->Hp->Prop,(∃ m,W 0 m [] H1)/\∀ i m ys H,W i m ys H->
 (J.stop i H/\∀ p,H p=none->Q (.ref p) (upd H p (.lst ys)))\/
 (J.go i H/\ys.length < sizeLine/\∃ N:List V->Hp->Prop,(∀ ys' H',N ys' H'->∃ m',m' < m/\W (i + 1) m' ys' H')/\
  ∀ x H',J.yld i H x H'->∃ a v w,x=.ref a/\SqT K H' a [v,w]/\tt (some v :: some w :: σ) H' fun b H2=>if b=true then te (some v :: some w :: σ) H2 fun y H3=>N (ys ++ [y]) H3 else N ys H2)
section
variable {X:Cx}{M:List Str}{scope:Scope}{x x2:Str}{px px2 ptg pos:Pos}{tk:Nat}{elt iter:Expr}{ifs:List Expr}{wi:TI}{tt:TT}{te:TE}
end
end L2
namespace L2
open PySem PySem.Spec PyProof.Rows
variable {i:Nat}{K:PySem.W.Frag}{x:V}
def dV:V->PyData
 | .bl b=>.bool b
 | .int i=>.int i
 | .str x=>.str x
 | _=>.none
def okV:V->Bool
 | .non=>true
 | .bl _=>true
 | .int _=>true
 | .str x=>PyData.strOk x
 | _=>false
theorem okV_flat:∀ {x:V},okV x=true->b1e x=true
 | .non,_=>rfl
 | .bl b,_=>rfl
 | .int i,_=>rfl
 | .str x,_=>rfl
section
variable {K:PySem.W.Frag}{H:Hp}{Q:VK}{σ:St}{D:b0y}{a b t u:Addr}{xs ys:List V}
theorem st_inT {neg:Bool}(s:SqT K H a xs)(hx:b1e x=true)(hs:xs.all b1e=true)(q:Q (.bl (if neg then !inV x xs else inV x xs)) H):rIn K neg x (.ref a) H Q:=⟨a,xs,rfl,.inr s,hx,hs,q⟩
end
section
variable {X:Cx}
theorem op_eqDK (h:X.K=K)(hu:X.A.units + 64 < cLine):OpR X (compareOp .Eq) (rEqD K):=h ▸ op_eqD hu
theorem op_neDK (h:X.K=K)(hu:X.A.units + 64 < cLine):OpR X (compareOp .NotEq) (rNeD K):=h ▸ op_neD hu
end
theorem ite_t {c A B:Prop} [Decidable c](h:c)(a:A):if decide c=true then A else B:=by
 rw [decide_eq_true h];exact iteT a
theorem ite_f {c A B:Prop} [Decidable c](h:¬ c)(b:B):if decide c=true then A else B:=by
 rw [decide_eq_false h];exact iteF b
section
variable {K:PySem.W.Frag}{H:Hp}{Q:VK}{a:Addr}{xs:List V}
end
theorem at0 (x:V)(xs:List V):atI (x :: xs) 0=some x:=b3q (j:=0) rfl
theorem at1 (x y:V)(xs:List V):atI (x :: y :: xs) 1=some y:=b3q (j:=1) rfl
theorem all_get {f:V->Bool}{xs:List V}(h:xs.all f=true)(e:xs[i]? = some x):f x=true:=List.all_eq_true.mp h _ (List.mem_of_getElem? e)
theorem a0q {α:Type}{xs:List α}{x:α}(e:xs[i]? = some x):xs.take (i + 1) = xs.take i ++ [x]:=by
 rw [List.take_add_one,e];rfl
theorem int_get {is:List Int}(e:(is.map V.int)[i]? = some x):∃ j,x=.int j:=by
 rw [List.getElem?_map] at e
 cases h:is[i]? with
 | none=>rw [h] at e; cases e
 | some j=>rw [h] at e; exact ⟨j,(Option.some.inj e).symm⟩
section
variable {K:PySem.W.Frag}{a:Addr}{xs:List V}{tl te:TE}{tt:TT}{Q:VK}{σ:St}{H:Hp}
end
end L2
namespace L2
open PySem PySem.Spec PyProof.Rows
section
variable {H:Hp}{Q:VK}{n m:Nat}{p q:Bool}
theorem st_xorNB (h:Q (.int ((n ^^^ p.toNat:Nat):Int)) H):rI0 (fun i j=>.int (Builtin.bitXor i j)) (.int (n:Int)) (.int (Tw.bI p)) H Q:=b8a (by
 rw [Tw.b3h,a8m]; exact h)
theorem st_xorBB (h:Q (.int (Tw.bI (p ^^ q))) H):rI0 (fun i j=>.int (Builtin.bitXor i j)) (.int (Tw.bI p)) (.int (Tw.bI q)) H Q:=b8a (by
 rw [Tw.b3h,Tw.b3h,a8m];have e:((p.toNat ^^^ q.toNat:Nat):Int) = Tw.bI (p ^^ q):=by cases p <;> cases q <;> rfl
 rw [e]; exact h)
theorem st_sub1B (h:Q (.int (Tw.bI (!q))) H):rI0 (fun i j=>.int (i - j)) (.int 1) (.int (Tw.bI q)) H Q:=b8a (by
 have e:(1:Int) - Tw.bI q=Tw.bI (!q):=by cases q <;> rfl
 rw [e]; exact h)
end
end L2
namespace Tw
open PySem L2
inductive DK where
 | over | quarter | back | both | wher | swap
 deriving DecidableEq
def DK.word:DK->Str
 | .over=>"over" | .quarter=>"quarter" | .back=>"back" | .both=>"both" | .wher=>"where" | .swap=>"swap"
def DK.undo:DK->Str
 | .over=>"over" | .quarter=>"back" | .back=>"quarter" | .both=>"both" | .wher=>"where" | .swap=>"swap"
def DK.n:DK->Nat
 | .over=>1 | .quarter=>1 | .back=>1 | .both=>1 | .wher=>2 | .swap=>2
def DK.inv:DK->DK
 | .quarter=>.back | .back=>.quarter | k=>k
theorem DK.n_pos (k:DK):0 < k.n/\k.n <= 2:=by cases k <;> decide
def vn (l:List Nat):List V:=l.map fun k=>V.int ((k:Nat):Int)
theorem a6a (l:List Nat):(vn l).length=l.length:=by unfold vn; rw [List.length_map]
structure Dd where
 k:DK
 w:List Nat
structure Dd.Ok (d:Dd)(n:Nat):Prop where
 len:d.w.length=d.k.n
 lt:∀ x ∈ d.w,x < n
 nd:d.w.Nodup
def WN (K:PySem.W.Frag)(H:Hp)(v:V)(b:Bool):Prop:=∃ t b1 b2,b2q K H v t/\PySem.W.kitOne K t (.type "int") = some b1/\PySem.W.kitOne K t (.type "bool") = some b2/\b=(b1 && !b2)
theorem WN.int (K:PySem.W.Frag)(H:Hp)(i:Int):WN K H (.int i) true:=⟨_,true,false,.int i,b4s,b2f,rfl⟩
theorem WN.bl (K:PySem.W.Frag)(H:Hp)(i:Bool):WN K H (.bl i) false:=⟨_,true,true,.bl i,b1y,b0n,rfl⟩
theorem WN.str (K:PySem.W.Frag)(H:Hp)(i:Str):WN K H (.str i) false:=⟨_,false,false,.str i,b4h,b1w,rfl⟩
theorem WN.non (K:PySem.W.Frag)(H:Hp):WN K H .non false:=⟨_,false,false,.non,a7m,a6j,rfl⟩
def wnB:V->Bool
 | .int _=>true
 | _=>false
theorem WN.flat (K:PySem.W.Frag)(H:Hp):∀ {v:V},b1e v=true->WN K H v (wnB v)
 | .int i,_=>WN.int K H i
 | .bl i,_=>WN.bl K H i
 | .str i,_=>WN.str K H i
 | .non,_=>WN.non K H
def a5m (K:PySem.W.Frag):Sp:=fun vs H Q _=>∃ v b,vs=[v]/\WN K H v b/\Q (.bl b) H
structure Row where
 m:Nat
 x:Nat
 z:Nat
def Row.V (r:Row):List V:=[.int (r.m:Nat),.int (r.x:Nat),.int (r.z:Nat)]
structure Row.Ok (r:Row)(n:Nat):Prop where
 m:r.m <= 1
 x:r.x < 2 ^ n
 z:r.z < 2 ^ n
def ex (n i j:Nat):Nat:=n ^^^ (n.testBit i ^^ n.testBit j).toNat * 2 ^ i ^^^ (n.testBit i ^^ n.testBit j).toNat * 2 ^ j
def a5e (k:DK)(i j:Nat)(r:Row):Row:=
 match k with
 | .over=>⟨r.m ^^^ (r.z.testBit i).toNat,r.x,r.z⟩
 | .quarter=>⟨r.m ^^^ (r.x.testBit i && r.z.testBit i).toNat,r.x,r.z ^^^ (r.x.testBit i).toNat * 2 ^ i⟩
 | .back=>⟨r.m ^^^ (r.x.testBit i && !r.z.testBit i).toNat,r.x,r.z ^^^ (r.x.testBit i).toNat * 2 ^ i⟩
 | .both=>⟨r.m ^^^ (r.x.testBit i && r.z.testBit i).toNat,r.x ^^^ (r.x.testBit i ^^ r.z.testBit i).toNat * 2 ^ i,r.z ^^^ (r.x.testBit i ^^ r.z.testBit i).toNat * 2 ^ i⟩
 | .wher=>⟨r.m ^^^ (r.x.testBit i && r.z.testBit j && !(r.z.testBit i ^^ r.x.testBit j)).toNat,r.x ^^^ (r.x.testBit i).toNat * 2 ^ j,r.z ^^^ (r.z.testBit j).toNat * 2 ^ i⟩
 | .swap=>⟨r.m,ex r.x i j,ex r.z i j⟩
def act (d:Dd)(r:Row):Row:=a5e d.k (d.w.getD 0 0) (d.w.getD 1 0) r
theorem a2p {w:List Nat}(h:w.length=1):∃ i,w=[i]:=by
 match w,h with
 | [i],_=>exact ⟨i,rfl⟩
theorem a4e {w:List Nat}(h:w.length=2):∃ i j,w=[i,j]:=by
 match w,h with
 | [i,j],_=>exact ⟨i,j,rfl⟩
end Tw
namespace Tw
variable {a b i j:Nat}
theorem a2a (b:Bool)(i k:Nat):(b.toNat * 2 ^ i).testBit k=(decide (i=k) && b):=by
 cases b with
 | false=>simp
 | true=>simp [Nat.testBit_two_pow]
theorem a9e {f g:Nat->Bool}{k:Nat}:∀ {n:Nat},k < n->(∀ i,i < n->i ≠ k->f i=g i)->cnt f n + (g k).toNat=cnt g n + (f k).toNat
 | n + 1,hk,h=>by
  rw [cnt,cnt]
  by_cases e:k=n
  ·subst e;have:=a4c (p:=f) (q:=g) (k:=k) fun i hi=>h i (by omega) (by omega);omega
  ·have:=a9e (f:=f) (g:=g) (k:=k) (n:=n) (by omega) fun i hi hn=>h i (by omega) hn;rw [h n (by omega) (Ne.symm e)];omega
theorem b7y {f g:Nat->Bool}{n:Nat}(hi:i < n)(hj:j < n)(hij:i ≠ j)(h:∀ k,k < n->k ≠ i->k ≠ j->f k=g k):cnt f n + (g i).toNat + (g j).toNat=cnt g n + (f i).toNat + (f j).toNat:=by
 have h1:=a9e (f:=f) (g:=fun k=>if k=i then g i else f k) hi fun k _ hk=>by simp [hk]
 have h2:=a9e (f:=fun k=>if k=i then g i else f k) (g:=g) hj fun k hk1 hk=>by
  by_cases e:k=i
  ·simp [e]
  ·simp only [e,if_false];exact h k hk1 e hk
 simp only [if_true] at h1;simp only [Ne.symm hij,if_false] at h2;omega
def a2h (q:Nat)(p:Int × Int):Int × Int:=
 if q % 4=0 then p else if q % 4=1 then (-p.2,p.1) else if q % 4=2 then (-p.1,-p.2) else (p.2,-p.1)
theorem a1b (h:a % 4=b % 4)(p:Int × Int):a2h a p=a2h b p:=by unfold a2h; rw [h]
theorem a6c (a b:Nat)(p:Int × Int):a2h a (a2h b p) = a2h (a + b) p:=by
 have ha:a % 4 < 4:=Nat.mod_lt _ (by decide);have hb:b % 4 < 4:=Nat.mod_lt _ (by decide);obtain ⟨x,y⟩:=p;have e:(a + b) % 4=(a % 4 + b % 4) % 4:=Nat.add_mod _ _ _;unfold a2h;rw [e]
 revert ha hb
 generalize a % 4=u;generalize b % 4=v;intro ha hb
 match u,v,ha,hb with
 | 0,0,_,_=>rfl
 | 0,1,_,_=>rfl
 | 0,2,_,_=>rfl
 | 0,3,_,_=>rfl
 | 1,0,_,_=>rfl
 | 1,1,_,_=>simp
 | 1,2,_,_=>simp
 | 1,3,_,_=>simp
 | 2,0,_,_=>rfl
 | 2,1,_,_=>simp
 | 2,2,_,_=>simp
 | 2,3,_,_=>simp
 | 3,0,_,_=>rfl
 | 3,1,_,_=>simp
 | 3,2,_,_=>simp
 | 3,3,_,_=>simp
def qq (r:Row)(b n:Nat):Nat:=2 * r.m + 2 * cnt (fun i=>r.z.testBit i && b.testBit i) n + cnt (fun i=>r.x.testBit i && r.z.testBit i) n
def rowE (r:Row)(n:Nat)(e:Nat × Int × Int):Nat × Int × Int:=(e.1 ^^^ r.x,a2h (qq r e.1 n) e.2)
def clr (b i:Nat):Nat:=b - (b.testBit i).toNat * 2 ^ i
def a3q (k:DK)(i j:Nat)(e:Nat × Int × Int):List (Nat × Int × Int):=
 match k with
 | .over=>[(e.1 ^^^ 2 ^ i,e.2)]
 | .quarter=>[(e.1,a2h (e.1.testBit i).toNat e.2)]
 | .back=>[(e.1,a2h (3 * (e.1.testBit i).toNat) e.2)]
 | .both=>[(clr e.1 i,e.2),(clr e.1 i + 2 ^ i,a2h (2 * (e.1.testBit i).toNat) e.2)]
 | .wher=>[(e.1 ^^^ (e.1.testBit i).toNat * 2 ^ j,e.2)]
 | .swap=>[(clr (clr e.1 i) j + (e.1.testBit j).toNat * 2 ^ i + (e.1.testBit i).toNat * 2 ^ j,e.2)]
theorem b8h {t:Nat}(h:a &&& t=0):a + t=a ^^^ t:=by
 have h1:=a4y a t;have h2:=a2x a t;omega
theorem clr_xor (b i:Nat):clr b i=b ^^^ (b.testBit i).toNat * 2 ^ i:=by
 have h:(b ^^^ (b.testBit i).toNat * 2 ^ i) &&& ((b.testBit i).toNat * 2 ^ i) = 0:=by
  apply Nat.eq_of_testBit_eq;intro k;rw [Nat.testBit_and,Nat.testBit_xor,a2a,Nat.zero_testBit]
  by_cases e:i=k
  ·subst e;cases b.testBit i <;> simp
  ·simp [e]
 have h2:=b8h h;rw [Nat.xor_assoc,Nat.xor_self,Nat.xor_zero] at h2;unfold clr;omega
theorem a7y (b i k:Nat):(clr b i).testBit k=(!decide (i=k) && b.testBit k):=by
 rw [clr_xor,Nat.testBit_xor,a2a]
 by_cases e:i=k
 ·subst e;cases b.testBit i <;> simp
 ·simp [e]
theorem b8e {b:Bool}(h:a.testBit i=false):a + b.toNat * 2 ^ i=a ^^^ b.toNat * 2 ^ i:=by
 apply b8h;apply Nat.eq_of_testBit_eq;intro k;rw [Nat.testBit_and,a2a,Nat.zero_testBit]
 by_cases e:i=k
 ·subst e;simp [h]
 ·simp [e]
theorem set_xor (b i:Nat):clr b i + 2 ^ i=clr b i ^^^ 2 ^ i:=by
 have h:=b8e (a:=clr b i) (i:=i) (b:=true) (by rw [a7y]; simp)
 simpa using h
theorem b2r (hij:i ≠ j):clr (clr b i) j + (b.testBit j).toNat * 2 ^ i + (b.testBit i).toNat * 2 ^ j=ex b i j:=by
 have h1:=b8e (a:=clr (clr b i) j) (i:=i) (b:=b.testBit j) (by rw [a7y,a7y]; simp);rw [h1];have h2:=b8e (a:=clr (clr b i) j ^^^ (b.testBit j).toNat * 2 ^ i) (i:=j) (b:=b.testBit i) (by rw [Nat.testBit_xor,a7y,a2a]; simp [hij]);rw [h2];unfold ex;apply Nat.eq_of_testBit_eq;intro k;simp only [Nat.testBit_xor,a7y,a2a]
 by_cases e:i=k
 ·subst e;simp only [Ne.symm hij,decide_true,decide_false,Bool.false_and,Bool.true_and,Bool.not_false,Bool.not_true,Bool.xor_false];cases b.testBit i <;> cases b.testBit j <;> rfl
 ·by_cases e2:j=k
  ·subst e2;simp only [e,decide_true,decide_false,Bool.false_and,Bool.true_and,Bool.not_false,Bool.not_true,Bool.xor_false];cases b.testBit i <;> cases b.testBit j <;> rfl
  ·simp [e,e2]
theorem ex_tb {k:Nat}(hij:i ≠ j):(ex b i j).testBit k=if k=i then b.testBit j else if k=j then b.testBit i else b.testBit k:=by
 unfold ex;simp only [Nat.testBit_xor,a2a]
 by_cases e:k=i
 ·subst e;simp only [Ne.symm hij,decide_true,decide_false,Bool.false_and,Bool.true_and,Bool.xor_false,if_true];cases b.testBit k <;> cases b.testBit j <;> rfl
 ·by_cases e2:k=j
  ·subst e2;simp only [e,Ne.symm e,decide_true,decide_false,Bool.false_and,Bool.true_and,Bool.xor_false,if_true,if_false];cases b.testBit k <;> cases b.testBit i <;> rfl
  ·simp [e,e2,Ne.symm e,Ne.symm e2]
theorem m_xor {m:Nat}(h:m <= 1)(b:Bool):m ^^^ b.toNat=if b then 1 - m else m:=by
 match m,h with
 | 0,_=>cases b <;> rfl
 | 1,_=>cases b <;> rfl
end Tw
namespace Tw
theorem b6k {a c:Nat}{p q:Int × Int}(h1:a=c)(h2:p=q):(a,p) = (c,q):=by rw [h1,h2]
theorem xor_rc (a b c:Nat):a ^^^ b ^^^ c=a ^^^ c ^^^ b:=by rw [Nat.xor_assoc,Nat.xor_comm b c,<- Nat.xor_assoc]
theorem tb_pow (i k:Nat):(2 ^ i).testBit k=decide (i=k):=by simp [Nat.testBit_two_pow]
section
variable {i j n b:Nat}{r:Row}
theorem ph_over (ok:r.Ok n)(hi:i < n):qq r b n % 4=qq (a5e .over i j r) (b ^^^ 2 ^ i) n % 4:=by
 have h:=a9e (f:=fun k=>r.z.testBit k && (b ^^^ 2 ^ i).testBit k) (g:=fun k=>r.z.testBit k && b.testBit k) hi fun k _ hk=>by
  simp only [Nat.testBit_xor,tb_pow];simp [Ne.symm hk]
 unfold qq a5e;dsimp only at h ⊢;rw [m_xor ok.m];have hm:=ok.m;generalize cnt (fun k=>r.z.testBit k && (b ^^^ 2 ^ i).testBit k) n=A at h ⊢;generalize cnt (fun k=>r.z.testBit k && b.testBit k) n=B at h ⊢;generalize cnt (fun k=>r.x.testBit k && r.z.testBit k) n=C at h ⊢;simp only [Nat.testBit_xor,tb_pow,decide_true] at h;clear ok;generalize r.z.testBit i=v0 at h ⊢;generalize b.testBit i=v1 at h ⊢;cases v0 <;> cases v1 <;> simp only [Bool.true_and,Bool.false_and,Bool.and_true,Bool.and_false,Bool.xor_false,Bool.false_xor,Bool.true_xor,Bool.xor_true,Bool.not_true,Bool.not_false,Bool.toNat_true,Bool.toNat_false,if_true,if_false,Bool.false_eq_true,Bool.xor_self] at * <;> omega
theorem ph_q (ok:r.Ok n)(hi:i < n):(((b ^^^ r.x).testBit i).toNat + qq r b n) % 4=(qq (a5e .quarter i j r) b n + (b.testBit i).toNat) % 4:=by
 have h:=a9e (f:=fun k=>(r.z ^^^ (r.x.testBit i).toNat * 2 ^ i).testBit k && b.testBit k) (g:=fun k=>r.z.testBit k && b.testBit k) hi fun k _ hk=>by
  simp only [Nat.testBit_xor,a2a];simp [Ne.symm hk]
 have h2:=a9e (f:=fun k=>r.x.testBit k && (r.z ^^^ (r.x.testBit i).toNat * 2 ^ i).testBit k) (g:=fun k=>r.x.testBit k && r.z.testBit k) hi fun k _ hk=>by
  simp only [Nat.testBit_xor,a2a];simp [Ne.symm hk]
 unfold qq a5e;dsimp only at h h2 ⊢;rw [m_xor ok.m];have hm:=ok.m;clear ok;generalize cnt (fun k=>(r.z ^^^ (r.x.testBit i).toNat * 2 ^ i).testBit k && b.testBit k) n=A at h h2 ⊢;generalize cnt (fun k=>r.z.testBit k && b.testBit k) n=B at h h2 ⊢;generalize cnt (fun k=>r.x.testBit k && (r.z ^^^ (r.x.testBit i).toNat * 2 ^ i).testBit k) n=C at h h2 ⊢;generalize cnt (fun k=>r.x.testBit k && r.z.testBit k) n=D at h h2 ⊢;simp only [Nat.testBit_xor,a2a,decide_true,Bool.true_and] at h h2 ⊢;generalize r.z.testBit i=v0 at h h2 ⊢;generalize b.testBit i=v1 at h h2 ⊢;generalize r.x.testBit i=v2 at h h2 ⊢;cases v0 <;> cases v1 <;> cases v2 <;> simp only [Bool.true_and,Bool.false_and,Bool.and_true,Bool.and_false,Bool.xor_false,Bool.false_xor,Bool.true_xor,Bool.xor_true,Bool.not_true,Bool.not_false,Bool.toNat_true,Bool.toNat_false,if_true,if_false,Bool.false_eq_true,Bool.xor_self] at * <;> omega
theorem ph_b (ok:r.Ok n)(hi:i < n):(3 * ((b ^^^ r.x).testBit i).toNat + qq r b n) % 4=(qq (a5e .back i j r) b n + 3 * (b.testBit i).toNat) % 4:=by
 have h:=a9e (f:=fun k=>(r.z ^^^ (r.x.testBit i).toNat * 2 ^ i).testBit k && b.testBit k) (g:=fun k=>r.z.testBit k && b.testBit k) hi fun k _ hk=>by
  simp only [Nat.testBit_xor,a2a];simp [Ne.symm hk]
 have h2:=a9e (f:=fun k=>r.x.testBit k && (r.z ^^^ (r.x.testBit i).toNat * 2 ^ i).testBit k) (g:=fun k=>r.x.testBit k && r.z.testBit k) hi fun k _ hk=>by
  simp only [Nat.testBit_xor,a2a];simp [Ne.symm hk]
 unfold qq a5e;dsimp only at h h2 ⊢;rw [m_xor ok.m];have hm:=ok.m;clear ok;generalize cnt (fun k=>(r.z ^^^ (r.x.testBit i).toNat * 2 ^ i).testBit k && b.testBit k) n=A at h h2 ⊢;generalize cnt (fun k=>r.z.testBit k && b.testBit k) n=B at h h2 ⊢;generalize cnt (fun k=>r.x.testBit k && (r.z ^^^ (r.x.testBit i).toNat * 2 ^ i).testBit k) n=C at h h2 ⊢;generalize cnt (fun k=>r.x.testBit k && r.z.testBit k) n=D at h h2 ⊢;simp only [Nat.testBit_xor,a2a,decide_true,Bool.true_and] at h h2 ⊢;generalize r.z.testBit i=v0 at h h2 ⊢;generalize b.testBit i=v1 at h h2 ⊢;generalize r.x.testBit i=v2 at h h2 ⊢;cases v0 <;> cases v1 <;> cases v2 <;> simp only [Bool.true_and,Bool.false_and,Bool.and_true,Bool.and_false,Bool.xor_false,Bool.false_xor,Bool.true_xor,Bool.xor_true,Bool.not_true,Bool.not_false,Bool.toNat_true,Bool.toNat_false,if_true,if_false,Bool.false_eq_true,Bool.xor_self] at * <;> omega
theorem ph_h (ok:r.Ok n)(hi:i < n)(c:Bool):∀ B:Nat,(∀ k,B.testBit k=if k=i then c else b.testBit k)->
  (qq (a5e .both i j r) B n + 2 * (r.z.testBit i && b.testBit i).toNat) % 4=(qq r b n + 2 * (r.x.testBit i && c).toNat + 2 * (r.x.testBit i && r.z.testBit i).toNat) % 4:=by
 intro B hB
 have h:=a9e (f:=fun k=>(r.z ^^^ (r.x.testBit i ^^ r.z.testBit i).toNat * 2 ^ i).testBit k && B.testBit k) (g:=fun k=>r.z.testBit k && b.testBit k) hi fun k _ hk=>by
  simp only [Nat.testBit_xor,a2a,hB];simp [Ne.symm hk,hk]
 have h2:=a9e (f:=fun k=>(r.x ^^^ (r.x.testBit i ^^ r.z.testBit i).toNat * 2 ^ i).testBit k && (r.z ^^^ (r.x.testBit i ^^ r.z.testBit i).toNat * 2 ^ i).testBit k) (g:=fun k=>r.x.testBit k && r.z.testBit k) hi fun k _ hk=>by
  simp only [Nat.testBit_xor,a2a];simp [Ne.symm hk]
 unfold qq a5e;dsimp only at h h2 ⊢;rw [m_xor ok.m];have hm:=ok.m;clear ok;generalize cnt (fun k=>(r.z ^^^ (r.x.testBit i ^^ r.z.testBit i).toNat * 2 ^ i).testBit k && B.testBit k) n=A at h h2 ⊢;generalize cnt (fun k=>r.z.testBit k && b.testBit k) n=B1 at h h2 ⊢;generalize cnt (fun k=>(r.x ^^^ (r.x.testBit i ^^ r.z.testBit i).toNat * 2 ^ i).testBit k && (r.z ^^^ (r.x.testBit i ^^ r.z.testBit i).toNat * 2 ^ i).testBit k) n=C at h h2 ⊢;generalize cnt (fun k=>r.x.testBit k && r.z.testBit k) n=D at h h2 ⊢;simp only [Nat.testBit_xor,a2a,decide_true,Bool.true_and,hB,if_true] at h h2 ⊢;clear hB;generalize r.z.testBit i=v0 at h h2 ⊢;generalize b.testBit i=v1 at h h2 ⊢;generalize r.x.testBit i=v2 at h h2 ⊢;cases v0 <;> cases v1 <;> cases v2 <;> cases c <;> simp only [Bool.true_and,Bool.false_and,Bool.and_true,Bool.and_false,Bool.xor_false,Bool.false_xor,Bool.true_xor,Bool.xor_true,Bool.not_true,Bool.not_false,Bool.toNat_true,Bool.toNat_false,if_true,if_false,Bool.false_eq_true,Bool.xor_self] at * <;> omega
theorem ph_w (ok:r.Ok n)(hi:i < n)(hj:j < n)(hij:i ≠ j):qq r b n % 4=qq (a5e .wher i j r) (b ^^^ (b.testBit i).toNat * 2 ^ j) n % 4:=by
 have h:=b7y (f:=fun k=>(r.z ^^^ (r.z.testBit j).toNat * 2 ^ i).testBit k && (b ^^^ (b.testBit i).toNat * 2 ^ j).testBit k) (g:=fun k=>r.z.testBit k && b.testBit k) hi hj hij fun k _ hk hk2=>by
  simp only [Nat.testBit_xor,a2a];simp [Ne.symm hk,Ne.symm hk2]
 have h2:=b7y (f:=fun k=>(r.x ^^^ (r.x.testBit i).toNat * 2 ^ j).testBit k && (r.z ^^^ (r.z.testBit j).toNat * 2 ^ i).testBit k) (g:=fun k=>r.x.testBit k && r.z.testBit k) hi hj hij fun k _ hk hk2=>by
  simp only [Nat.testBit_xor,a2a];simp [Ne.symm hk,Ne.symm hk2]
 unfold qq a5e;dsimp only at h h2 ⊢;rw [m_xor ok.m];have hm:=ok.m;clear ok;generalize cnt (fun k=>(r.z ^^^ (r.z.testBit j).toNat * 2 ^ i).testBit k && (b ^^^ (b.testBit i).toNat * 2 ^ j).testBit k) n=A at h h2 ⊢;generalize cnt (fun k=>r.z.testBit k && b.testBit k) n=B1 at h h2 ⊢;generalize cnt (fun k=>(r.x ^^^ (r.x.testBit i).toNat * 2 ^ j).testBit k && (r.z ^^^ (r.z.testBit j).toNat * 2 ^ i).testBit k) n=C at h h2 ⊢;generalize cnt (fun k=>r.x.testBit k && r.z.testBit k) n=D at h h2 ⊢;simp only [Nat.testBit_xor,a2a,decide_true,Bool.true_and,hij,Ne.symm hij,decide_false,Bool.false_and,Bool.xor_false] at h h2 ⊢;clear hij;generalize r.z.testBit i=v0 at h h2 ⊢;generalize b.testBit i=v1 at h h2 ⊢;generalize r.x.testBit i=v2 at h h2 ⊢;generalize r.z.testBit j=v3 at h h2 ⊢;generalize b.testBit j=v4 at h h2 ⊢;generalize r.x.testBit j=v5 at h h2 ⊢;cases v0 <;> cases v1 <;> cases v2 <;> cases v3 <;> cases v4 <;> cases v5 <;> simp only [Bool.true_and,Bool.false_and,Bool.and_true,Bool.and_false,Bool.xor_false,Bool.false_xor,Bool.true_xor,Bool.xor_true,Bool.not_true,Bool.not_false,Bool.toNat_true,Bool.toNat_false,if_true,if_false,Bool.false_eq_true,Bool.xor_self] at * <;> omega
theorem ph_s (hi:i < n)(hj:j < n)(hij:i ≠ j):qq r b n=qq (a5e .swap i j r) (ex b i j) n:=by
 have h:=b7y (f:=fun k=>(ex r.z i j).testBit k && (ex b i j).testBit k) (g:=fun k=>r.z.testBit k && b.testBit k) hi hj hij fun k _ hk hk2=>by
  simp only [ex_tb hij,hk,hk2,if_false]
 have h2:=b7y (f:=fun k=>(ex r.x i j).testBit k && (ex r.z i j).testBit k) (g:=fun k=>r.x.testBit k && r.z.testBit k) hi hj hij fun k _ hk hk2=>by
  simp only [ex_tb hij,hk,hk2,if_false]
 unfold qq a5e;dsimp only at h h2 ⊢;generalize cnt (fun k=>(ex r.z i j).testBit k && (ex b i j).testBit k) n=A at h h2 ⊢;generalize cnt (fun k=>(ex r.x i j).testBit k && (ex r.z i j).testBit k) n=C at h h2 ⊢;simp only [ex_tb hij,Ne.symm hij,if_true,if_false] at h h2;omega
theorem core {k:DK}(ok:r.Ok n)(hi:i < n)(hj:k.n=2->j < n/\i ≠ j)(p:Int × Int) :
  a3q k i j (rowE r n (b,p)) = (a3q k i j (b,p)).map (rowE (a5e k i j r) n)\/a3q k i j (rowE r n (b,p)) = ((a3q k i j (b,p)).map (rowE (a5e k i j r) n)).reverse:=by
 cases k with
 | over=>
  left
  simp only [a3q,rowE,List.map_cons,List.map_nil];rw [b6k (xor_rc b r.x (2 ^ i)) (a1b (ph_over (j:=j) ok hi) p)];rfl
 | quarter=>
  left
  simp only [a3q,rowE,List.map_cons,List.map_nil,a6c];rw [b6k (rfl:b ^^^ r.x=b ^^^ r.x) (a1b (ph_q (j:=j) ok hi) p)];rfl
 | back=>
  left
  simp only [a3q,rowE,List.map_cons,List.map_nil,a6c];rw [b6k (rfl:b ^^^ r.x=b ^^^ r.x) (a1b (ph_b (j:=j) ok hi) p)];rfl
 | wher=>
  left
  obtain ⟨hj1,hij⟩:=hj rfl;simp only [a3q,rowE,List.map_cons,List.map_nil];refine congrArg (fun x=>[x]) (b6k ?_ (a1b (ph_w ok hi hj1 hij) p));unfold a5e;dsimp only;apply Nat.eq_of_testBit_eq;intro q;simp only [Nat.testBit_xor,a2a]
  by_cases e:j=q
  ·subst e;simp only [decide_true,Bool.true_and];cases b.testBit i <;> cases r.x.testBit i <;> cases b.testBit j <;> cases r.x.testBit j <;> rfl
  ·simp [e]
 | swap=>
  left
  obtain ⟨hj1,hij⟩:=hj rfl;simp only [a3q,rowE,List.map_cons,List.map_nil,b2r hij];refine congrArg (fun x=>[x]) (b6k ?_ (by rw [ph_s hi hj1 hij]));unfold a5e;dsimp only;apply Nat.eq_of_testBit_eq;intro q;simp only [Nat.testBit_xor,ex_tb hij]
  by_cases e:q=i
  ·simp [e]
  ·by_cases e2:q=j
   ·subst e2;simp [Ne.symm hij]
   ·simp [e,e2]
 | both=>
  have t0:∀ q,(clr b i).testBit q=if q=i then false else b.testBit q:=fun q=>by
   rw [a7y]
   by_cases e:q=i
   ·simp [e]
   ·simp [e,Ne.symm e]
  have t1:∀ q,(clr b i + 2 ^ i).testBit q=if q=i then true else b.testBit q:=fun q=>by
   rw [set_xor,Nat.testBit_xor,a7y,tb_pow]
   by_cases e:q=i
   ·simp [e]
   ·simp [e,Ne.symm e]
  have p0:=ph_h (j:=j) ok hi false (clr b i) t0;have p1:=ph_h (j:=j) ok hi true (clr b i + 2 ^ i) t1
  have k0:∀ c:Bool,∀ B:Nat,(∀ q,B.testBit q=if q=i then c else b.testBit q)->∀ q,(B ^^^ (r.x ^^^ (r.x.testBit i ^^ r.z.testBit i).toNat * 2 ^ i)).testBit q=if q=i then (c ^^ r.z.testBit i) else (b ^^^ r.x).testBit q:=fun c B hB q=>by
   simp only [Nat.testBit_xor,a2a,hB]
   by_cases e:q=i
   ·subst e;simp only [if_true,decide_true,Bool.true_and];cases c <;> cases r.x.testBit q <;> cases r.z.testBit q <;> rfl
   ·simp [e,Ne.symm e]
  have l0:∀ q,(clr (b ^^^ r.x) i).testBit q=if q=i then false else (b ^^^ r.x).testBit q:=fun q=>by
   rw [a7y]
   by_cases e:q=i
   ·simp [e]
   ·simp [e,Ne.symm e]
  have l1:∀ q,(clr (b ^^^ r.x) i + 2 ^ i).testBit q=if q=i then true else (b ^^^ r.x).testBit q:=fun q=>by
   rw [set_xor,Nat.testBit_xor,a7y,tb_pow]
   by_cases e:q=i
   ·simp [e]
   ·simp [e,Ne.symm e]
  have keq:∀ (c:Bool) (B:Nat),(∀ q,B.testBit q=if q=i then c else b.testBit q)->∀ (L:Nat) (d:Bool),(∀ q,L.testBit q=if q=i then d else (b ^^^ r.x).testBit q)->d=(c ^^ r.z.testBit i)->L=B ^^^ (a5e .both i j r).x:=fun c B hB L d hL hd=>by
   apply Nat.eq_of_testBit_eq;intro q;rw [hL,show (a5e .both i j r).x=r.x ^^^ (r.x.testBit i ^^ r.z.testBit i).toNat * 2 ^ i from rfl,k0 c B hB,hd]
  simp only [a3q,rowE,List.map_cons,List.map_nil,a6c,List.reverse_cons,List.reverse_nil,List.nil_append,List.singleton_append]
  cases hz:r.z.testBit i with
  | false=>
   left
   rw [hz] at p0 p1;refine congr (congrArg List.cons (b6k (keq false _ t0 _ false l0 (by rw [hz]; rfl)) (a1b ?_ p))) (congrArg (fun x=>[x]) (b6k (keq true _ t1 _ true l1 (by rw [hz]; rfl)) (a1b ?_ p)))
   ·simp only [Bool.false_and,Bool.and_false,Bool.toNat_false] at p0;omega
   ·simp only [Nat.testBit_xor,Bool.false_and,Bool.and_false,Bool.and_true,Bool.toNat_false] at p1 ⊢
    revert p1
    generalize qq (a5e .both i j r) (clr b i + 2 ^ i) n=A;generalize qq r b n=B;cases b.testBit i <;> cases r.x.testBit i <;> simp only [Bool.toNat_true,Bool.toNat_false,Bool.false_xor,Bool.true_xor,Bool.not_true,Bool.not_false,Bool.xor_false] <;> intro p1 <;> omega
  | true=>
   right
   rw [hz] at p0 p1;refine congr (congrArg List.cons (b6k (keq true _ t1 _ false l0 (by rw [hz]; rfl)) (a1b ?_ p))) (congrArg (fun x=>[x]) (b6k (keq false _ t0 _ true l1 (by rw [hz]; rfl)) (a1b ?_ p)))
   ·simp only [Bool.true_and,Bool.and_true] at p1
    revert p1
    generalize qq (a5e .both i j r) (clr b i + 2 ^ i) n=A;generalize qq r b n=B;cases b.testBit i <;> cases r.x.testBit i <;> simp only [Bool.toNat_true,Bool.toNat_false] <;> intro p1 <;> omega
   ·simp only [Nat.testBit_xor,Bool.true_and,Bool.and_false,Bool.and_true] at p0 ⊢
    revert p0
    generalize qq (a5e .both i j r) (clr b i) n=A;generalize qq r b n=B;cases b.testBit i <;> cases r.x.testBit i <;> simp only [Bool.toNat_true,Bool.toNat_false,Bool.false_xor,Bool.true_xor,Bool.not_true,Bool.not_false,Bool.xor_false] <;> intro p0 <;> omega
end
end Tw
namespace Tw
open PySem L2
theorem a6m {b:Bool}{i n:Nat}(h:i < n):b.toNat * 2 ^ i < 2 ^ n:=by
 have h1:(2:Nat) ^ i < 2 ^ n:=Nat.pow_lt_pow_right (by decide) h;have h2:=Nat.two_pow_pos n;cases b
 ·simpa using h2
 ·simpa using h1
theorem m_le {m:Nat}(h:m <= 1)(b:Bool):m ^^^ b.toNat <= 1:=by
 rw [m_xor h];cases b <;> simp <;> omega
theorem actW_ok {k:DK}{i j n:Nat}{r:Row}(ok:r.Ok n)(hi:i < n)(hj:k.n=2->j < n):(a5e k i j r).Ok n:=by
 cases k with
 | over=>exact ⟨m_le ok.m _,ok.x,ok.z⟩
 | quarter=>exact ⟨m_le ok.m _,ok.x,a6g ok.z (a6m hi)⟩
 | back=>exact ⟨m_le ok.m _,ok.x,a6g ok.z (a6m hi)⟩
 | both=>exact ⟨m_le ok.m _,a6g ok.x (a6m hi),a6g ok.z (a6m hi)⟩
 | wher=>exact ⟨m_le ok.m _,a6g ok.x (a6m (hj rfl)),a6g ok.z (a6m hi)⟩
 | swap=>exact ⟨ok.m,a6g (a6g ok.x (a6m hi)) (a6m (hj rfl)),a6g (a6g ok.z (a6m hi)) (a6m (hj rfl))⟩
theorem Dd.Ok.one {d:Dd}{n:Nat}(ok:d.Ok n):d.w.getD 0 0 < n/\(d.k.n=2->d.w.getD 1 0 < n/\d.w.getD 0 0 ≠ d.w.getD 1 0)/\d.w.getD 0 0 ∈ d.w/\(d.k.n=2->d.w.getD 1 0 ∈ d.w):=by
 obtain ⟨k,w⟩:=d;have hl:=ok.len;have hp:=k.n_pos;have hlt:=ok.lt;have hnd:=ok.nd;dsimp only at hl hlt hnd ⊢
 rcases Nat.lt_or_ge k.n 2 with h | h
 ·obtain ⟨i,rfl⟩:=a2p (w:=w) (by omega);exact ⟨hlt i (by simp),fun z=>by omega,by simp,fun z=>by omega⟩
 ·obtain ⟨i,j,rfl⟩:=a4e (w:=w) (by omega)
  have hij:i ≠ j:=by
   intro z;subst z;simp at hnd
  exact ⟨hlt i (by simp),fun _=>⟨hlt j (by simp),hij⟩,by simp,fun _=>by simp⟩
theorem act_ok {d:Dd}{n:Nat}{r:Row}(ok:r.Ok n)(hd:d.Ok n):(act d r).Ok n:=actW_ok ok hd.one.1 fun e=>(hd.one.2.1 e).1
end Tw
namespace Tw
open PySem L2
def But (f:Addr)(H H':Hp):Prop:=∀ c o,c ≠ f->H c=some o->H' c=some o
theorem But.same {f:Addr}{H0 H H':Hp}(s:a1u H0 H)(h:But f H H')(n:H0 f=none):a1u H0 H':=fun c o e=>h c o (a0h e n) (s c o e)
theorem But.upd {f:Addr}{H:Hp}{o:HO}:But f H (L2.upd H f o):=fun c u hc e=>by rw [a0m hc]; exact e
end Tw
namespace Tw
open PySem L2
variable {a:Addr}{p:Int × Int}{b c:Nat}
abbrev Wh:=List (Nat × Int × Int)
inductive WR (K:PySem.W.Frag) (H:Hp):Wh->List (Key × V)->Prop
 | nil:WR K H [] []
 | cons {b:Nat} {p:Int × Int} {a:Addr} {ws:Wh} {kvs:List (Key × V)}:SqT K H a [.int p.1,.int p.2]->WR K H ws kvs->WR K H ((b,p) :: ws) ((.inl ((b:Nat):Int),.ref a) :: kvs)
def wat (ws:Wh)(b:Nat):Option (Int × Int):=(ws.find? fun e=>decide (e.1=b)).map (·.2)
def wput (ws:Wh)(b:Nat)(p:Int × Int):Wh:=if ws.any (fun e=>decide (e.1=b)) then ws.map (fun e=>if e.1=b then (e.1,p) else e) else ws ++ [(b,p)]
section
variable {K:PySem.W.Frag}{H H':Hp}{ws:Wh}{kvs:List (Key × V)}
theorem WR.stay (h:WR K H ws kvs)(s:∀ a xs,SqT K H a xs->SqT K H' a xs):WR K H' ws kvs:=by
 induction h with
 | nil=>exact .nil
 | cons q _ ih=>exact .cons (s _ _ q) ih
theorem WR.len (h:WR K H ws kvs):kvs.length=ws.length:=by
 induction h with
 | nil=>rfl
 | cons q _ ih=>simp [ih]
theorem key_eq {a:Nat}:((Sum.inl ((a:Nat):Int):Key) = .inl ((b:Nat):Int)) ↔ a=b:=by
 constructor
 ·intro h;exact Int.ofNat_inj.mp (Sum.inl.inj h)
 ·rintro rfl;rfl
theorem WR.val (h:WR K H ws kvs)(b:Nat):(valV kvs (.inl ((b:Nat):Int)) = none/\wat ws b=none)\/∃ a p,valV kvs (.inl ((b:Nat):Int)) = some (.ref a)/\SqT K H a [.int p.1,.int p.2]/\wat ws b=some p:=by
 induction h with
 | nil=>exact .inl ⟨rfl,rfl⟩
 | @cons c p a ws kvs q _ ih=>
  by_cases e:c=b
  ·subst e;refine .inr ⟨a,p,b2n rfl,q,?_⟩;unfold wat;rw [List.find?_cons,decide_eq_true rfl];rfl
  ·have e1:¬ (Sum.inl ((c:Nat):Int):Key) = .inl ((b:Nat):Int):=fun z=>e (key_eq.mp z)
   have e2:wat ((c,p) :: ws) b=wat ws b:=by
    unfold wat;rw [List.find?_cons,decide_eq_false e]
   rw [e2,b2y e1];exact ih
theorem WR.any (h:WR K H ws kvs)(b:Nat):(kvs.any fun kv=>decide (kv.1=.inl ((b:Nat):Int))) = ws.any fun e=>decide (e.1=b):=by
 induction h with
 | nil=>rfl
 | @cons c p a ws kvs q _ ih=>
  rw [List.any_cons,List.any_cons,ih]
  congr 1
  by_cases e:c=b
  ·subst e;rw [decide_eq_true rfl,decide_eq_true rfl]
  ·rw [decide_eq_false e,decide_eq_false fun z=>e (key_eq.mp z)]
theorem WR.snoc (h:WR K H ws kvs)(q:SqT K H a [.int p.1,.int p.2]):WR K H (ws ++ [(b,p)]) (kvs ++ [(.inl ((b:Nat):Int),.ref a)]):=by
 induction h with
 | nil=>exact .cons q .nil
 | cons q' _ ih=>exact .cons q' ih
theorem WR.repl (h:WR K H ws kvs)(q:SqT K H a [.int p.1,.int p.2]):WR K H (ws.map fun e=>if e.1=b then (e.1,p) else e) (kvs.map fun kv=>if kv.1=.inl ((b:Nat):Int) then (kv.1,.ref a) else kv):=by
 induction h with
 | nil=>exact .nil
 | @cons c p' a' ws kvs q' _ ih=>
  rw [List.map_cons,List.map_cons]
  by_cases e:c=b
  ·subst e;rw [if_pos rfl,if_pos rfl];exact .cons q ih
  ·rw [if_neg e,if_neg fun z=>e (key_eq.mp z)];exact .cons q' ih
theorem WR.put (h:WR K H ws kvs)(q:SqT K H a [.int p.1,.int p.2]):WR K H (wput ws b p) (b7h kvs (.inl ((b:Nat):Int)) (.ref a)):=by
 unfold wput b7h;rw [h.any b]
 split
 ·exact h.repl q
 ·exact h.snoc q
theorem WR.get (h:WR K H ws kvs):∀ {i:Nat} {k:Key} {v:V},kvs[i]? = some (k,v)->∃ b p a,ws[i]? = some (b,p)/\k=.inl ((b:Nat):Int)/\v=.ref a/\SqT K H a [.int p.1,.int p.2]:=by
 induction h with
 | nil=>intro i k v e; simp at e
 | @cons c p a ws kvs q _ ih=>
  intro i k v e
  cases i with
  | zero=>
   simp only [List.getElem?_cons_zero,Option.some.injEq,Prod.mk.injEq] at e;exact ⟨c,p,a,rfl,e.1.symm,e.2.symm,q⟩
  | succ i=>
   rw [List.getElem?_cons_succ] at e ⊢;exact ih e
theorem a7e (e:c ≠ b):wat ((c,p) :: ws) b=wat ws b:=by
 unfold wat;rw [List.find?_cons,decide_eq_false e]
theorem b1x :wat ((c,p) :: ws) c=some p:=by
 unfold wat;rw [List.find?_cons,decide_eq_true rfl];rfl
end
end Tw
namespace Tw
open PySem L2
def b5u (ws:Wh)(b:Nat)(p:Int × Int):Wh:=wput ws b (((wat ws b).getD (0,0)).1 + p.1,((wat ws b).getD (0,0)).2 + p.2)
def adds (ws es:Wh):Wh:=es.foldl (fun acc e=>b5u acc e.1 e.2) ws
def a4m (d:Dd)(ws:Wh):Wh:=ws.foldl (fun acc e=>adds acc (a3q d.k (d.w.getD 0 0) (d.w.getD 1 0) e)) []
theorem wat_mem {ws:Wh}{b:Nat}(h:b ∈ ws.map (·.1)):(wat ws b).isSome=true:=by
 obtain ⟨e,he,rfl⟩:=List.mem_map.mp h;unfold wat;rw [Option.isSome_map,List.find?_isSome];exact ⟨e,he,by simp⟩
end Tw
namespace L2
open PySem
variable {H:Hp}{Q:VK}
def rDisp (p:Addr)(x y:V)(H2:Hp)(Q:VK):Prop:=H2 p=some (.dK [])/\∃ kvs:List (Key × V),[(x,y)] = kvs.map (fun kv=>(kV kv.1,kv.2))/\kvs.length <= 15/\Q (.ref p) (upd H2 p (.dK (b6e [] kvs)))
theorem st_disp1 {tk tv:TE}{σ:St}(h:∀ p,H p=none->tk σ (upd H p (.dK [])) fun x H1=>tv σ H1 fun y H2=>rDisp p x y H2 Q):tDisp [(tk,tv)] σ H Q:=h
theorem st_disp2 {p:Addr}{i:Int}{y:V}(h:H p=some (.dK []))(q:Q (.ref p) (upd H p (.dK [(.inl i,y)]))):rDisp p (.int i) y H Q:=⟨h,[(.inl i,y)],rfl,Nat.le_of_ble_eq_true rfl,q⟩
section
variable {K:PySem.W.Frag}{H:Hp}{D:b0y}{σ:St}{g:TG}{tb:TS}{a:Addr}{xs:List V}
end
end L2
namespace L2
open PySem PySem.Spec PyProof.Rows
section
variable {M:Model}{A:Around}{E:Value->Shared->Prop}{s:Shared}{base:Heap}{env:Env}{outer:List Env}{L e:Addr}{cls a0 fl:Value}
end
section
variable {X:Cx}{scope:Scope}{x:Str}{px pos:Pos}{elt iter:Expr}{ifs:List Expr}{wi:TI}{tt:TT}{te:TE}{E:XK}
end
end L2
namespace L2
open PySem PySem.Spec PyProof.Rows
variable {a:Addr}{H:Hp}{xs:List V}{K:PySem.W.Frag}{σ:St}{te:TE}{tt:TT}{Q:VK}
section
variable {X:Cx}{tg:Expr}
end
section
variable {K:PySem.W.Frag}{a:Addr}{xs:List V}{g:TG}{tb:TS}{D:b0y}{σ:St}{H:Hp}
end
theorem comp_lst (Pv:Nat->List V->Hp->Prop)(hn:xs.length <= 1000)(h0:Pv 0 [] H)(hl:∀ i ys H,Pv i ys H->ys.length <= i)(hk:∀ i ys H,Pv i ys H->SqL K H a xs)
  (hs:∀ i x ys H,xs[i]? = some x->Pv i ys H->tt (some x :: σ) H fun b H2=>if b=true then te (some x :: σ) H2 fun y H3=>Pv (i + 1) (ys ++ [y]) H3 else Pv (i + 1) ys H2)
  (hd:∀ ys H,Pv xs.length ys H->∀ p,H p=none->Q (.ref p) (upd H p (.lst ys))) :
  ∃ W:Nat->Nat->List V->Hp->Prop,(∃ m,W 0 m [] H)/\∀ i m ys H,W i m ys H->((Itl K a).stop i H/\∀ p,H p=none->Q (.ref p) (upd H p (.lst ys)))\/
   ((Itl K a).go i H/\ys.length < sizeLine/\∃ N:List V->Hp->Prop,(∀ ys' H',N ys' H'->∃ m',m' < m/\W (i + 1) m' ys' H')/\
    ∀ x H',(Itl K a).yld i H x H'->tt (some x :: σ) H' fun b H2=>if b=true then te (some x :: σ) H2 fun y H3=>N (ys ++ [y]) H3 else N ys H2):=by
 refine ⟨fun i m ys H=>m=xs.length - i/\i <= xs.length/\Pv i ys H,⟨xs.length,by simp,Nat.zero_le _,h0⟩,?_⟩;rintro i m ys H ⟨rfl,hi,p⟩
 by_cases hlt:i < xs.length
 ·refine .inr ⟨⟨xs,xs[i],hk i ys H p,by simp [hlt]⟩,a2j (by have:=hl i ys H p; omega),Pv (i + 1),fun ys' H' p'=>⟨xs.length - (i + 1),by omega,rfl,hlt,p'⟩,fun x H' y=>?_⟩;obtain ⟨e,y⟩:=y;subst e;exact hs i x ys _ (y xs (hk i ys _ p)) p
 ·have e:i=xs.length:=by omega
  subst e;exact .inl ⟨⟨xs,hk _ ys H p,Nat.le_refl _⟩,hd ys H p⟩
theorem a3v {tl:TE}(e:∀ P:V->Hp->Prop,P (.ref a) H->tl σ H P)(s:SqL K H a xs)(Pv:Nat->List V->Hp->Prop)(hn:xs.length <= 1000)(h0:Pv 0 [] H)(hl:∀ i ys H,Pv i ys H->ys.length <= i)(hk:∀ i ys H,Pv i ys H->SqL K H a xs)
  (hs:∀ i x ys H,xs[i]? = some x->Pv i ys H->tt (some x :: σ) H fun b H2=>if b=true then te (some x :: σ) H2 fun y H3=>Pv (i + 1) (ys ++ [y]) H3 else Pv (i + 1) ys H2)
  (hd:∀ ys H,Pv xs.length ys H->∀ p,H p=none->Q (.ref p) (upd H p (.lst ys))):tComp (iList K tl) tt te σ H Q:=
 e _ ⟨a,rfl,⟨xs,s⟩,comp_lst Pv hn h0 hl hk hs hd⟩
end L2
namespace Tw
variable {d:Dd}{a b c i:Nat}{r:Row}
theorem xx (a b:Nat):a ^^^ b ^^^ b=a:=by rw [Nat.xor_assoc,Nat.xor_self,Nat.xor_zero]
theorem xx2 (h:c=b):a ^^^ b ^^^ c=a:=by rw [h,xx]
theorem b5y {a' b' c':Nat}(h1:a=a')(h2:b=b')(h3:c=c'):(⟨a,b,c⟩:Row) = ⟨a',b',c'⟩:=by rw [h1,h2,h3]
theorem actW_undo {k:DK}{j:Nat}(hj:k.n=2->i ≠ j):a5e k.inv i j (a5e k i j r) = r:=by
 obtain ⟨m,x,z⟩:=r;have td:∀ q:Nat,decide (q=q) = true:=fun q=>decide_eq_true rfl
 cases k with
 | over=>exact b5y (xx _ _) rfl rfl
 | quarter=>
  refine b5y (xx2 ?_) rfl (xx2 rfl);simp only [a5e,Nat.testBit_xor,a2a,td];cases x.testBit i <;> cases z.testBit i <;> rfl
 | back=>
  refine b5y (xx2 ?_) rfl (xx2 rfl);simp only [a5e,Nat.testBit_xor,a2a,td];cases x.testBit i <;> cases z.testBit i <;> rfl
 | both=>
  refine b5y (xx2 ?_) (xx2 ?_) (xx2 ?_) <;> simp only [a5e,Nat.testBit_xor,a2a,td]
  ·cases x.testBit i <;> cases z.testBit i <;> rfl
  ·cases x.testBit i <;> cases z.testBit i <;> rfl
  ·cases x.testBit i <;> cases z.testBit i <;> rfl
 | wher=>
  have hij:=hj rfl;have d1:decide (j=i) = false:=decide_eq_false (Ne.symm hij);have d2:decide (i=j) = false:=decide_eq_false hij;refine b5y (xx2 ?_) (xx2 ?_) (xx2 ?_) <;> simp only [a5e,Nat.testBit_xor,a2a,td,d1,d2]
  ·cases x.testBit i <;> cases z.testBit i <;> cases x.testBit j <;> cases z.testBit j <;> rfl
  ·simp
  ·simp
 | swap=>
  have hij:=hj rfl
  have e:∀ b,ex (ex b i j) i j=b:=fun b=>by
   apply Nat.eq_of_testBit_eq;intro k;rw [ex_tb hij,ex_tb hij,ex_tb hij,ex_tb hij]
   by_cases e:k=i
   ·subst e; simp [Ne.symm hij]
   ·by_cases e2:k=j
    ·subst e2; simp [e]
    ·simp [e,e2]
  exact b5y rfl (e _) (e _)
def Dd.inv (d:Dd):Dd:=⟨d.k.inv,d.w⟩
theorem act_inv {n:Nat}(h:d.Ok n):act d.inv (act d r) = r:=actW_undo fun e=>(h.one.2.1 e).2
def b0w (ds:List Dd)(r:Row):Row:=ds.foldl (fun r d=>act d r) r
def undo (ds:List Dd):List Dd:=(ds.map Dd.inv).reverse
theorem b4e (ds:List Dd)(d:Dd)(r:Row):b0w (ds ++ [d]) r=act d (b0w ds r):=by unfold b0w; rw [List.foldl_append]; rfl
theorem a7r {n:Nat}:∀ {ds:List Dd},(∀ d ∈ ds,d.Ok n)->∀ r,b0w (undo ds) (b0w ds r) = r
 | [],_,_=>rfl
 | d :: ds,h,r=>by
  have e:undo (d :: ds) = undo ds ++ [d.inv]:=by unfold undo; rw [List.map_cons,List.reverse_cons]
  rw [e,b4e];show act d.inv (b0w (undo ds) (b0w ds (act d r))) = r;rw [a7r (fun x hx=>h x (List.mem_cons_of_mem _ hx)),act_inv (h d List.mem_cons_self)]
theorem acts_ok {n:Nat}:∀ {ds:List Dd} {r:Row},r.Ok n->(∀ d ∈ ds,d.Ok n)->(b0w ds r).Ok n
 | [],_,h,_=>h
 | d :: ds,r,h,hd=>acts_ok (ds:=ds) (act_ok h (hd d List.mem_cons_self)) fun x hx=>hd x (List.mem_cons_of_mem _ hx)
theorem acts_take {ds:List Dd}(r:Row)(h:ds[i]? = some d):b0w (ds.take (i + 1)) r=act d (b0w (ds.take i) r):=by
 rw [L2.a0q h,b4e]
end Tw
namespace Tw
open PySem L2
variable {f:Addr}{H H' H1:Hp}
inductive a5d {α β:Type} (R:α->β->Prop):List α->List β->Prop
 | nil:a5d R [] []
 | cons {a b as bs} (h:R a b) (t:a5d R as bs):a5d R (a :: as) (b :: bs)
section
variable {α β:Type}{R R':α->β->Prop}{as cs:List α}{bs ds:List β}
theorem a5d.mono (k:∀ a b,R a b->R' a b):∀ {as:List α} {bs:List β},a5d R as bs->a5d R' as bs
 | _,_,.nil=>.nil
 | _,_,.cons h t=>.cons (k _ _ h) (t.mono k)
theorem a5d.len:∀ {as:List α} {bs:List β},a5d R as bs->as.length=bs.length
 | _,_,.nil=>rfl
 | _,_,.cons _ t=>by rw [List.length_cons,List.length_cons,t.len]
theorem a5d.get:∀ {as:List α} {bs:List β},a5d R as bs->∀ {i:Nat} {a:α},as[i]? = some a->∃ b,bs[i]? = some b/\R a b
 | _,_,.nil,_,_,e=>by cases e
 | _,_,.cons h t,0,_,e=>by cases e; exact ⟨_,rfl,h⟩
 | _,_,.cons _ t,i + 1,_,e=>t.get (i:=i) (by simpa using e)
theorem a5d.app:∀ {as:List α} {bs:List β},a5d R as bs->a5d R cs ds->a5d R (as ++ cs) (bs ++ ds)
 | _,_,.nil,h=>h
 | _,_,.cons x t,h=>.cons x (t.app h)
theorem a5d.snoc {a:α}{b:β}(h:a5d R as bs)(x:R a b):a5d R (as ++ [a]) (bs ++ [b]):=h.app (.cons x .nil)
theorem a5d.take:∀ {as:List α} {bs:List β},a5d R as bs->∀ i,a5d R (as.take i) (bs.take i)
 | _,_,.nil,i=>by rw [List.take_nil,List.take_nil]; exact .nil
 | _,_,.cons _ _,0=>.nil
 | _,_,.cons x t,i + 1=>.cons x (t.take i)
end
def Wt (H:Hp)(a:Addr)(d:Dd):Prop:=H a=some (.tup (.str d.k.word :: vn d.w))
abbrev a1q (as:List Addr):List V:=as.map V.ref
theorem But.of (s:a1u H H1)(h:But f H1 H'):But f H H':=fun c o hc e=>h c o hc (s c o e)
theorem But.trans (s:But f H H1)(h:But f H1 H'):But f H H':=fun c o hc e=>h c o hc (s c o hc e)
section
variable {K:PySem.W.Frag}{H:Hp}{Q:VK}{a b:Addr}{as bs:List Addr}{ds:List Dd}
end
theorem cut_takeV (xs:List V)(k:Nat):cutV xs none (some (k:Int)) = xs.take k:=by
 unfold cutV;rw [HT.sIx_none,HT.sIx_nat,List.drop_zero,Nat.sub_zero,List.take_eq_take_iff];omega
theorem cut_dropV (xs:List V)(k:Nat):cutV xs (some (k:Int)) none=xs.drop k:=by
 unfold cutV;rw [HT.sIx_none,HT.sIx_nat]
 by_cases h:k <= xs.length
 ·rw [Nat.min_eq_left h,List.take_of_length_le (by rw [List.length_drop]; exact Nat.le_refl _)]
 ·rw [Nat.min_eq_right (by omega),List.drop_of_length_le (Nat.le_refl _),List.drop_of_length_le (by omega:xs.length <= k),List.take_nil]
theorem a2q {as:List Addr}{i:Nat}{x:V}(h:(a1q as)[i]? = some x):∃ a,as[i]? = some a/\x=.ref a:=by
 unfold a1q at h;rw [List.getElem?_map] at h
 cases e:as[i]? with
 | none=>rw [e] at h; cases h
 | some a=>rw [e] at h; exact ⟨a,rfl,(Option.some.inj h).symm⟩
theorem a0n (as:List Addr):(a1q as).length=as.length:=List.length_map _
end Tw
namespace L2
open PySem PySem.Spec PyProof.Rows
def CMulW (i j:Int):Prop:=i.natAbs < 2 ^ 300/\j.natAbs < 2 ^ 300
theorem bits300 {k:Int}(h:k.natAbs < 2 ^ 300):Builtin.Int.intBits k <= 300:=by
 unfold Builtin.Int.intBits
 split
 ·exact Nat.zero_le _
 ·rcases Nat.eq_zero_or_pos k.natAbs with z | z
  ·rw [z]; decide
  ·exact (Nat.log2_lt (Nat.ne_of_gt z)).mpr h
theorem op_mulW {X:Cx}:OpR X (binaryOp .Mult) (rI CMulW fun i j=>.int (i * j)):=opI fun _ _ _ _ _ _ _ hc q=>mul_int q (IntMulOk.of_bits (Nat.le_trans (bits300 hc.1) (by decide)) (Nat.le_trans (bits300 hc.2) (by decide)))
section
variable {K:PySem.W.Frag}{a:Addr}{xs:List V}{tl:TE}{tt:TT}{te:TE}{Q:VK}{σ:St}{H:Hp}
def sCompL (K:PySem.W.Frag)(tt:TT)(te:TE)(σ:St)(Q:VK):V->Hp->Prop:=fun x H=>∃ a,x=.ref a/\(∃ xs,SqL K H a xs)/\∃ W:Nat->Nat->List V->Hp->Prop,(∃ m,W 0 m [] H)/\∀ i m ys H,W i m ys H->((Itl K a).stop i H/\∀ p,H p=none->Q (.ref p) (upd H p (.lst ys)))\/
   ((Itl K a).go i H/\ys.length < sizeLine/\∃ N:List V->Hp->Prop,(∀ ys' H',N ys' H'->∃ m',m' < m/\W (i + 1) m' ys' H')/\
    ∀ x H',(Itl K a).yld i H x H'->tt (some x :: σ) H' fun b H2=>if b=true then te (some x :: σ) H2 fun y H3=>N (ys ++ [y]) H3 else N ys H2)
theorem st_cpE (h:tl σ H (sCompL K tt te σ Q)):tComp (iList K tl) tt te σ H Q:=h
theorem st_cpAt (s:SqL K H a xs)(Pv:Nat->List V->Hp->Prop)(hn:xs.length <= 1000)(h0:Pv 0 [] H)(hl:∀ i ys H,Pv i ys H->ys.length <= i)(hk:∀ i ys H,Pv i ys H->SqL K H a xs)
  (hs:∀ i x ys H,xs[i]? = some x->Pv i ys H->tt (some x :: σ) H fun b H2=>if b=true then te (some x :: σ) H2 fun y H3=>Pv (i + 1) (ys ++ [y]) H3 else Pv (i + 1) ys H2)
  (hd:∀ ys H,Pv xs.length ys H->∀ p,H p=none->Q (.ref p) (upd H p (.lst ys))):sCompL K tt te σ Q (.ref a) H:=⟨a,rfl,⟨xs,s⟩,comp_lst Pv hn h0 hl hk hs hd⟩
end
end L2
namespace Tw
open PySem L2
variable {a:Addr}{H H':Hp}{K:PySem.W.Frag}
def Rt (K:PySem.W.Frag)(H:Hp)(a:Addr)(r:Row):Prop:=H a=some (.tup r.V)
theorem row_okV (r:Row):r.V.all okV=true:=rfl
section
variable {K:PySem.W.Frag}{H:Hp}{Q:VK}{a b:Addr}{as bs:List Addr}{rs:List Row}
end
theorem Rt.same {r:Row}(s:a1u H H')(h:Rt K H a r):Rt K H' a r:=s _ _ h
theorem But.sq {f:Addr}{xs:List V}(h:But f H H')(hf:H f=some (.lst xs)){ys:List V}(s:SqT K H a ys):SqT K H' a ys:=by
 rcases s with (s | ⟨o,s⟩) | s
 ·exact .inl (.inl (h _ _ (a9u s hf (by intro z; cases z)) s))
 ·exact .inl (.inr ⟨o,h _ _ (a9u s hf (by intro z; cases z)) s⟩)
 ·exact .inr s
theorem a3h (as:List Addr)(a:Addr):a1q as ++ [.ref a] = a1q (as ++ [a]):=by unfold a1q; rw [List.map_append]; rfl
theorem cmulW {x y:Int}(h1:0 <= x)(h2:x < 10 ^ 41)(h3:0 <= y)(h4:y < 10 ^ 41):CMulW x y:=by
 have e:(10:Nat) ^ 41 < 2 ^ 300:=by decide
 have e2:(10:Int) ^ 41=((10 ^ 41:Nat):Int):=by decide
 rw [e2] at h2 h4;exact ⟨by omega,by omega⟩
end Tw
namespace L2
open PySem PySem.Spec PyProof.Rows
variable {elts:List Expr}{kk:Nat}{tpos:Pos}{ta:TA}
def ItEn (K:PySem.W.Frag)(a:Addr)(n:Nat):It:=
 ⟨fun i H=>∃ xs x,SqL K H a xs/\xs.length=n/\xs[i]? = some x,fun i H x H'=>∃ T v,H T=none/\x=.ref T/\(∀ xs,SqL K H a xs->xs[i]? = some v)/\H' = upd H T (.tup [.int (i:Int),v]),fun i H=>∃ xs,SqL K H a xs/\xs.length=n/\n <= i⟩
theorem Inv.list_ne {X:Cx}{pins:List (Addr × Obj)}{σ:St}{H:Hp}{s:Shared}(I:Inv X pins σ H s){fp:List Addr}(hf:∀ b ∈ fp,FpOk X pins H b){a:Addr}{xs:List V}(hq:SqL X.K H a xs):∀ b ∈ fp,a ≠ b:=fun b hb z=>by
 subst z;obtain ⟨f0,_,_,f3,_⟩:=hf a hb
 rcases hq with (h | ⟨o,h⟩) | ⟨o,_,_,h,_⟩
 ·rw [f0] at h; cases h
 ·rw [f0] at h; cases h
 ·have e:=I.ok.mod.kin a o h
  rcases f3 with q | q
  ·exact I.ok.noex a o e q
  ·exact Nat.not_le.mpr (Nat.lt_of_lt_of_le (Heap.lt_size e) I.ok.bsz) q
theorem turn_enumL {P:Program}{w:World}{K:PySem.W.Frag}(a e it:Addr)(hne:e ≠ it)(n:Nat) :
  Turn P w K (.Tuple elts kk tpos) (ItEn K a n) [e,it] e (fun i h=>((∃ old,IsEnum h e it i old)/\h.IsListIter it a i)/\i <= n) where
 mem:=by simp
 obj:=fun i h st b hb=>by
  rcases List.mem_cons.mp hb with r | r
  ·subst r;obtain ⟨⟨⟨old,q⟩,_⟩,_⟩:=st
   exact ⟨_,q,fun v z=>by
    have z':Data.fields _=Data.cell v:=z
    cases z'⟩
  ·have r':b=it:=by simpa using r
   subst r';obtain ⟨⟨_,⟨o,q,c,d⟩⟩,_⟩:=st;exact ⟨o,q,fun v q=>by rw [d] at q; cases q⟩
 keep:=fun i h h' st k=>by
  obtain ⟨⟨⟨old,q⟩,⟨o,q2,r⟩⟩,l⟩:=st;exact ⟨⟨⟨old,k e (by simp) _ q⟩,⟨o,k it (by simp) o q2,r⟩⟩,l⟩
 item:=by
  intro X hP hw hK hc i pins s σ H E I hf st hg;subst hP hw hK;obtain ⟨xs,x0,hq,hn,hx⟩:=hg;obtain ⟨its,rv,pl,hz⟩:=I.list hq;have hl:=rv.length
  have hil:i < its.toArray.size:=by
   have:=(List.getElem?_eq_some_iff.mp hx).1;rw [List.size_toArray];omega
  have al:=I.list_ne hf hq;have D:=Draws.list (prog:=X.prog) (w:=X.w) (A:=X.A.in1) (I.ok.hd hc) it a (al it (by simp)) its.toArray;have W:=WalksT.enumerateD (A:=X.A) D e hne (by simp only [List.mem_cons,List.not_mem_nil,or_false,not_or]; exact ⟨hne,Ne.symm (al e (by simp))⟩) (by simp);refine W.item i s _ _ hil ⟨st.1.1,st.1.2,pl.isList⟩ fun T vals h' tk hv hT htup mid kk'=>?_;obtain ⟨t1,u,hu,rfl⟩:=hv;obtain ⟨u0,hu0,ru⟩:=rv.get hx
  have eu:u=u0:=by
   have h1:its[i]? = some u:=by simpa using hu
   rw [hu0] at h1;exact (Option.some.inj h1).symm
  subst eu;refine ⟨_,rfl,W.go elts kk tpos i T _ _ _ mid fun h2 st2 k2=>?_⟩;have hTw:=W.apart i T _ mid;have hH:H T=none:=I.hok.fresh hT;have kept:∀ b o,b ∉ [e,it]->s.heap.get? b=some o->h2.get? b=some o:=fun b o hb q=>k2 b o hb (kk' b o hb q)
  have ntr:∀ b v,H b=some v->b ∉ [e,it]:=fun b v q hb=>by
   have:=(hf b (by simpa using hb)).1;rw [q] at this; cases this
  have bT:∀ b o,s.heap.get? b=some o->b ≠ T:=fun b o q=>Nat.ne_of_lt (Nat.lt_of_lt_of_le (Heap.lt_size q) hT);obtain ⟨oT,eT,cT,nT,dT⟩:=htup;have eT2:=k2 T oT hTw eT
  have un:Un (frs X.stack) [e,it] H (upd H T (.tup [.int (i:Int),x0])) s.heap h2:=
   ⟨fun b o q _ _ n3=>kept b o n3 q,fun b o q _ _ n3=>⟨o.slots,kept b o n3 q⟩,fun b o q n _=>by rw [a0m (bT b o q)]; exact n,fun b o q n3=>⟨o,kept b o n3 q⟩,
    fun b xs q=>by rw [a0m (a0h q hH)]; exact q,fun b o v q=>by rw [a0m (a0h q hH)]; exact q,fun b ps q=>⟨#[],by rw [a0m (a0h q hH),q]; simp⟩⟩
  have hok:HOk X.prog X.w (upd H T (.tup [.int (i:Int),x0])) h2:=fun b v q=>by
   by_cases hb:b=T
   ·subst hb;rw [a0c] at q; cases q;exact ⟨Nat.le_of_lt (a2j (show (2:Nat) <= 1000 by decide)),[.int (i:Int) t1,u],.cons ⟨_,rfl⟩ (.cons ru .nil),oT,eT2,cT,nT,dT⟩
   ·rw [a0m hb] at q;refine (I.hok b v q).stay (fun c' v' hc2 q'=>?_) (fun c' q'=>by rw [a0m (a0h q' hH)]; exact q') fun c' xs q'=>by rw [a0m (a0h q' hH)]; exact q'
    rcases hc2 with r | r
    ·subst r; exact kept _ _ (ntr _ _ q) q'
    ·exact kept _ _ (ntr _ _ r) q'
  refine ⟨.ref T,_,I.call' (s':={ s with heap:=h2,toks:=tk }) rfl un hok I.bare (fun b hb=>?_),rfl,⟨T,x0,hH,rfl,fun ys hy=>by rw [I.list_inj hy hq]; exact hx,rfl⟩,⟨⟨st2.1,st2.2.1⟩,by rw [List.size_toArray] at hil; omega⟩,fun b hb=>?_⟩
  ·obtain ⟨f0,f1,f2,f3,f4,f5⟩:=hf b hb;exact ⟨f3,f1,f4,f5⟩
  ·have hbT:b ≠ T:=fun q=>hTw (by rw [<- q]; exact hb);rw [a0m hbT]; exact (hf b hb).1
 done:=by
  intro X hP hw hK hc i pins s σ H E I hf st hg;subst hP hw hK;obtain ⟨xs,hq,hn,hg⟩:=hg;obtain ⟨its,rv,pl,hz⟩:=I.list hq;have hl:=rv.length;have al:=I.list_ne hf hq;have D:=Draws.list (prog:=X.prog) (w:=X.w) (A:=X.A.in1) (I.ok.hd hc) it a (al it (by simp)) its.toArray;have W:=WalksT.enumerateD (A:=X.A) D e hne (by simp only [List.mem_cons,List.not_mem_nil,or_false,not_or]; exact ⟨hne,Ne.symm (al e (by simp))⟩) (by simp);have ei:i=its.toArray.size:=by have:=st.2; rw [List.size_toArray]; omega
  refine W.done s _ _ (ei ▸ ⟨st.1.1,st.1.2,pl.isList⟩) fun h2 tk kk'=>⟨rfl,?_⟩
  have ntr:∀ b v,H b=some v->b ∉ [e,it]:=fun b v q hb=>by
   have:=(hf b (by simpa using hb)).1;rw [q] at this; cases this
  have un:Un (frs X.stack) [e,it] H H s.heap h2:=
   ⟨fun b o q _ _ n3=>kk' b o n3 q,fun b o q _ _ n3=>⟨o.slots,kk' b o n3 q⟩,fun b o q n _=>n,fun b o q n3=>⟨o,kk' b o n3 q⟩,fun _ _ q=>q,fun _ _ _ q=>q,fun b ps q=>⟨#[],by rw [q]; simp⟩⟩
  have hok:HOk X.prog X.w H h2:=fun b v q=>by
   refine (I.hok b v q).stay (fun c' v' hc2 q'=>?_) (fun _ q'=>q') fun _ _ q'=>q'
   rcases hc2 with r | r
   ·subst r; exact kk' _ _ (ntr _ _ q) q'
   ·exact kk' _ _ (ntr _ _ r) q'
  exact I.call' (s':={ s with heap:=h2,toks:=tk }) rfl un hok I.bare fun b hb=>by
   obtain ⟨f0,f1,f2,f3,f4,f5⟩:=hf b hb;exact ⟨f3,f1,f4,f5⟩
 self:=fun _ _ _ _ _ st h=>by
  obtain ⟨⟨⟨old,q⟩,_⟩,_⟩:=st;exact wpAny_pyIter_enum q h
section
variable {X:Cx}{tg:Expr}
def iEnumL (K:PySem.W.Frag)(ta:TA):TI:=fun σ H R=>ta σ H fun vs H1=>∃ a xs,vs=[.ref a]/\SqL K H1 a xs/\R (ItEn K a xs.length) H1
theorem boot_enumL:bootBuiltins "enumerate" = some (.type "enumerate"):=by decide +kernel
theorem b8d {a:Expr}{p pos:Pos}(hg:Gl X "enumerate")(hm:X.mg "enumerate" = none)(ha:PA X [a] ta)(hs:starEach [a] X.env=[(false,eval a X.env)]:=by rfl) :
  PI X (.Tuple elts kk tpos) (.Call (.Name "enumerate" p) [a] [] pos) (iEnumL X.K ta):=by
 intro pins s σ H R I h;refine Call_ (ld_blt I hg hm boot_enumL (PyProof.Rows.callWith_type1 (thn (ha pos pins s σ H _ I h) fun us s1 ⟨vs,H1,I1,r1,q1⟩=>?_) hs rfl));obtain ⟨b,xs,rfl,hq,q⟩:=q1;obtain ⟨u,rfl,ru⟩:=a2t.one r1;cases ru;obtain ⟨its,rv,pl,hz⟩:=I1.list hq;refine call_enumerate_list pl.isList fun h' he hit hsz hk=>?_;refine wpAny_pyIter_enum he ?_;refine ⟨s1.heap.objs.size + 1,[s1.heap.objs.size + 1,s1.heap.objs.size],_,_,H1,rfl,I1.kept (t':=s1.toks) hk,turn_enumL b _ _ (Nat.succ_ne_self _) xs.length,⟨⟨⟨_,he⟩,hit⟩,Nat.zero_le _⟩,fun c hb=>?_,q⟩
 have hb':s1.heap.objs.size <= c:=by
  rcases List.mem_cons.mp hb with r | r
  ·rw [r]; exact Nat.le_succ _
  ·have:c=s1.heap.objs.size:=by simpa using r
   rw [this]; exact Nat.le_refl _
 exact I1.fpOk hb' (I1.hok.fresh hb')
end
section
variable {K:PySem.W.Frag}{a:Addr}{xs:List V}{g:TG}{tb:TS}{D:b0y}{σ:St}{H:Hp}
def sForEn (K:PySem.W.Frag)(g:TG)(tb:TS)(D:b0y)(σ:St):List V->Hp->Prop:=fun vs H1=>∃ a xs,vs=[.ref a]/\SqL K H1 a xs/\∃ W:Nat->Nat->St->Hp->Prop,(∃ m,W 0 m σ H1)/\∀ i m σ H,W i m σ H->
 ((ItEn K a xs.length).stop i H/\D.nx σ H)\/((ItEn K a xs.length).go i H/\∃ N:St->Hp->Prop,(∀ σ' H',N σ' H'->∃ m',m' < m/\W (i + 1) m' σ' H')/\∀ x H',(ItEn K a xs.length).yld i H x H'->g x σ H' fun σ2 H2=>tb { D with nx:=N,ct:=N,bk:=D.nx } σ2 H2)
theorem st_enE (h:ta σ H (sForEn K g tb D σ)):tFor (iEnumL K ta) g tb D σ H:=h
theorem st_enAt (s:SqL K H a xs)(Pv:Nat->St->Hp->Prop)(h0:Pv 0 σ H)(hl:∀ i σ H,i <= xs.length->Pv i σ H->SqL K H a xs)
  (hs:∀ i x σ H p,xs[i]? = some x->Pv i σ H->H p=none->g (.ref p) σ (upd H p (.tup [.int (i:Int),x])) fun σ2 H2=>tb { D with nx:=Pv (i + 1),ct:=Pv (i + 1),bk:=D.nx } σ2 H2) (hd:∀ σ H,Pv xs.length σ H->D.nx σ H):sForEn K g tb D σ [.ref a] H:=by
 refine ⟨a,xs,rfl,s,fun i m σ H=>m=xs.length - i/\i <= xs.length/\Pv i σ H,⟨xs.length,by simp,Nat.zero_le _,h0⟩,?_⟩;rintro i m σ H ⟨rfl,hi,p⟩;have q:=hl i σ H hi p
 by_cases hlt:i < xs.length
 ·refine .inr ⟨⟨xs,xs[i],q,rfl,by simp [hlt]⟩,Pv (i + 1),fun σ' H' p'=>⟨xs.length - (i + 1),by omega,rfl,hlt,p'⟩,fun x H' y=>?_⟩;obtain ⟨T,v,hT,rfl,hv,rfl⟩:=y;exact hs i v σ H T (hv xs q) p hT
 ·have e:i=xs.length:=by omega
  subst e;exact .inl ⟨⟨xs,q,rfl,Nat.le_refl _⟩,hd σ H p⟩
end
end L2
namespace Tw
open PySem L2 in
open PySem L2 in
section
open PySem L2
variable {K:PySem.W.Frag}{H:Hp}{Q:VK}{a b:Addr}{as bs:List Addr}{rs ss:List Row}{r s:Row}
end
end Tw
namespace L2
open PySem PySem.Spec PyProof.Rows
section
variable {X:Cx}
end
section
variable {K:PySem.W.Frag}{H:Hp}{Q:VK}{l:Addr}{xs:List V}{k:Int}
end
end L2
namespace Tw
open PySem L2
section
variable {K:PySem.W.Frag}{H:Hp}{Q:VK}{a b a1 a2 b1 b2:Addr}{as as' bs bs':List Addr}{ds es:List Dd}
end
theorem cut_intsG (ns:List Int)(lo hi:Nat):∃ ms:List Int,cutV (ns.map V.int) (some (lo:Int)) (some (hi:Int)) = ms.map V.int/\ms.length <= hi - lo:=by
 refine ⟨(ns.drop (min lo ns.length)).take (min hi ns.length - min lo ns.length),?_,by rw [List.length_take,List.length_drop]; omega⟩;unfold cutV;rw [HT.sIx_nat,HT.sIx_nat,List.length_map,List.map_take,List.map_drop]
end Tw
namespace L2
open PySem PySem.Spec PyProof.Rows
section
variable {X:Cx}
end
section
variable {X:Cx}{e:Expr}{lo hi:Option Expr}{st:Expr}{te ts:TE}{tl th:TO}{p2 pos:Pos}
end
section
variable {K:PySem.W.Frag}{a:Addr}{xs:List V}{ta:TA}{tt:TT}{te:TE}{Q:VK}{σ:St}{H:Hp}
theorem st_cpEn (e:∀ P:List V->Hp->Prop,P [.ref a] H->ta σ H P)(s:SqL K H a xs)(Pv:Nat->List V->Hp->Prop)(hn:xs.length <= 1000)(h0:Pv 0 [] H)(hl:∀ i ys H,Pv i ys H->ys.length <= i)(hk:∀ i ys H,Pv i ys H->SqL K H a xs)
  (hs:∀ i x ys H p,xs[i]? = some x->Pv i ys H->H p=none->tt (some (.int (i:Int)) :: some x :: σ) (upd H p (.tup [.int (i:Int),x])) fun b H2=>if b=true then te (some (.int (i:Int)) :: some x :: σ) H2 fun y H3=>Pv (i + 1) (ys ++ [y]) H3 else Pv (i + 1) ys H2)
  (hd:∀ ys H,Pv xs.length ys H->∀ p,H p=none->Q (.ref p) (upd H p (.lst ys))):tComp2 K (iEnumL K ta) tt te σ H Q:=by
 refine e _ ⟨a,xs,rfl,s,fun i m ys H=>m=xs.length - i/\i <= xs.length/\Pv i ys H,⟨xs.length,by simp,Nat.zero_le _,h0⟩,?_⟩;rintro i m ys H ⟨rfl,hi,p⟩;have q:=hk i ys H p
 by_cases hlt:i < xs.length
 ·refine .inr ⟨⟨xs,xs[i],q,rfl,by simp [hlt]⟩,a2j (by have:=hl i ys H p; omega),Pv (i + 1),fun ys' H' p'=>⟨xs.length - (i + 1),by omega,rfl,hlt,p'⟩,fun x H' y=>?_⟩;obtain ⟨T,v,hT,rfl,hv,rfl⟩:=y;exact ⟨T,_,_,rfl,SqT.of a0c,hs i v ys H T (hv xs q) p hT⟩
 ·have e:i=xs.length:=by omega
  subst e;exact .inl ⟨⟨xs,q,rfl,Nat.le_refl _⟩,hd ys H p⟩
end
end L2
namespace Tw
open PySem PySem.Spec L2
section
variable {K:PySem.W.Frag}{H:Hp}{Q:VK}{a b:Addr}{as bs:List Addr}{xs ys:List (List V)}
end
end Tw
namespace L2
open PySem PySem.Spec PyProof.Rows
section
variable {X:Cx}
def rSum (K:PySem.W.Frag):List V->Hp->VK->Prop:=fun xs H Q=>∃ (p:Addr) (ns:List Int),xs=[.ref p]/\SqL K H p (ns.map V.int)/\Q (.int ns.sum) H
theorem call_sumL (hc:X.calm=true):b1s X (.builtin "sum") (rSum X.K):=by
 intro pins s σ H xs us Q I r h;obtain ⟨p,ns,rfl,hs,q⟩:=h;obtain ⟨u,rfl,ru⟩:=vals1 r;cases ru;obtain ⟨its,ri,pl,_⟩:=I.list hs;obtain ⟨xs,e1,e2⟩:=b5w ri;have hl:s.heap.IsList p (intItems xs):=by rw [<- e1]; exact pl.isList
 refine sum_intListG (I.ok.hd hc) hl fun h' tk t' hk=>⟨.int ns.sum,H,I.kept (t':=tk) hk,⟨t',?_⟩,q⟩;rw [preSum_eq,List.take_of_length_le (by simp),<- e2]
end
section
variable {X:Cx}
end
section
variable {K:PySem.W.Frag}{tl:TE}{tt:TT}{te:TE}{Q:VK}{σ:St}{H:Hp}{a:Addr}{kvs:List (Key × V)}
theorem st_sum {ns:List Int}(s:SqL K H a (ns.map V.int))(q:Q (.int ns.sum) H):rSum K [.ref a] H Q:=⟨a,ns,rfl,s,q⟩
end
end L2
namespace PySem
open Sem (wp)
namespace F
end F
section
variable {prog:Program}{w:World}{K:Type} [DecidableEq K]{knd:KeyKind prog w K}{A:Around}{R:Result->Shared->Prop}
end
end PySem
namespace L2
open PySem PySem.Spec PyProof.Rows
section
variable {X:Cx}
end
end L2
namespace L2
open PySem PySem.Spec PyProof.Rows
def CMulV (i j:Int):Prop:=i.natAbs < 2 ^ 300/\j.natAbs < 2 ^ 300
theorem bits300V {k:Int}(h:k.natAbs < 2 ^ 300):Builtin.Int.intBits k <= 300:=by
 unfold Builtin.Int.intBits
 split
 ·exact Nat.zero_le _
 ·rcases Nat.eq_zero_or_pos k.natAbs with z | z
  ·rw [z]; decide
  ·exact (Nat.log2_lt (Nat.ne_of_gt z)).mpr h
theorem b7f {X:Cx}:OpR X (binaryOp .Mult) (rI CMulV fun i j=>.int (i * j)):=opI fun _ _ _ _ _ _ _ hc q=>mul_int q (IntMulOk.of_bits (Nat.le_trans (bits300V hc.1) (by decide)) (Nat.le_trans (bits300V hc.2) (by decide)))
end L2
namespace Tw
open PySem L2
variable {H:Hp}{kvs:List (Key × V)}{K:PySem.W.Frag}{q r:Row}
def crs (r q:Row):Nat:=(r.x &&& q.z) ^^^ (r.z &&& q.x)
def qrt (r q:Row):Int:=2 * ((r.m:Int) + (q.m:Int) + (pop (r.x &&& q.z):Nat)) + (pop (r.x &&& r.z):Nat) + (pop (q.x &&& q.z):Nat) - (pop ((r.x ^^^ q.x) &&& (r.z ^^^ q.z)):Nat)
def prod (r q:Row):Row:=⟨(qrt r q % 4 / 2).toNat,r.x ^^^ q.x,r.z ^^^ q.z⟩
def trn (r:Row)(b:Nat):Nat:=2 * r.m + 2 * pop (r.z &&& b) + pop (r.x &&& r.z)
theorem qrt_even (h:pop (crs r q) % 2=0):qrt r q % 2=0:=quart_even (pop_both r.x r.z q.x q.z) h
theorem prod_m (r q:Row):((prod r q).m:Int) = qrt r q % 4 / 2:=by
 show ((qrt r q % 4 / 2).toNat:Int) = _;omega
theorem prod_ok {n:Nat}(a:r.Ok n)(b:q.Ok n):(prod r q).Ok n:=⟨by
 have:=prod_m r q;have h:(prod r q).m=(prod r q).m:=rfl
 omega,a6g a.x b.x,a6g a.z b.z⟩
theorem prod_does (h:pop (crs r q) % 2=0)(b:Nat):(b ^^^ r.x) ^^^ q.x=b ^^^ (prod r q).x/\(trn r b % 4 + trn q (b ^^^ r.x) % 4) % 4=trn (prod r q) b % 4:=by
 refine ⟨by show _=b ^^^ (r.x ^^^ q.x); rw [Nat.xor_assoc],?_⟩;have h1:=prod_m r q;have h2:=(quart_half (qrt_even h)).2.2;have h3:=pop_meet r.z q.z r.x b;unfold trn;show _=(2 * (prod r q).m + 2 * pop ((r.z ^^^ q.z) &&& b) + pop ((r.x ^^^ q.x) &&& (r.z ^^^ q.z))) % 4;have h4:qrt r q=2 * ((r.m:Int) + (q.m:Int) + (pop (r.x &&& q.z):Nat)) + (pop (r.x &&& r.z):Nat) + (pop (q.x &&& q.z):Nat) - (pop ((r.x ^^^ q.x) &&& (r.z ^^^ q.z)):Nat):=rfl;rw [<- h1] at h2;omega
theorem b3m (q:Nat)(h:q % 4=0)(p:Int × Int):a2h q p=p:=by
 rw [a1b (b:=0) (by omega)];rfl
theorem turn_abs (q:Nat){p:Int × Int}{N:Nat}(h:p.1.natAbs < N/\p.2.natAbs < N):(a2h q p).1.natAbs < N/\(a2h q p).2.natAbs < N:=by
 have c:q % 4=0\/q % 4=1\/q % 4=2\/q % 4=3:=by omega
 rcases c with c | c | c | c
 ·rw [a1b (b:=0) (by omega)]; exact h
 ·rw [a1b (b:=1) (by omega)];show (-p.2).natAbs < N/\p.1.natAbs < N;rw [Int.natAbs_neg]; exact ⟨h.2,h.1⟩
 ·rw [a1b (b:=2) (by omega)];show (-p.1).natAbs < N/\(-p.2).natAbs < N;rw [Int.natAbs_neg,Int.natAbs_neg]; exact h
 ·rw [a1b (b:=3) (by omega)];show p.2.natAbs < N/\(-p.1).natAbs < N;rw [Int.natAbs_neg]; exact ⟨h.2,h.1⟩
theorem wput_keys (ws:Wh)(b:Nat)(p:Int × Int):(wput ws b p).map (·.1) = if ws.any (fun e=>decide (e.1=b)) then ws.map (·.1) else ws.map (·.1) ++ [b]:=by
 unfold wput
 split
 ·rw [List.map_map];apply List.map_congr_left;intro e _;show (if e.1=b then (e.1,p) else e).1=e.1
  split <;> rfl
 ·rw [List.map_append]; rfl
theorem But.tup {f:Addr}{H':Hp}(h:But f H H')(hf:H f=some (.dK kvs)):∀ a xs,SqT K H a xs->SqT K H' a xs:=fun a xs s=>by
 rcases s with (s | ⟨o,s⟩) | s
 ·exact .inl (.inl (h _ _ (a9u s hf (by intro z; cases z)) s))
 ·exact .inl (.inr ⟨o,h _ _ (a9u s hf (by intro z; cases z)) s⟩)
 ·exact .inr s
theorem frz_tup {a:Addr}{o:Obj}{u:HO}(h:H a=some (.frz o (.dK kvs))):∀ x xs,SqT K H x xs->SqT K (upd H a u) x xs:=fun x xs s=>by
 rcases s with (s | ⟨o',s⟩) | s
 ·exact .inl (.inl (by rw [a0m (a9u s h (by intro z; cases z))]; exact s))
 ·exact .inl (.inr ⟨o',by rw [a0m (a9u s h (by intro z; cases z))]; exact s⟩)
 ·exact .inr s
section
variable {K:PySem.W.Frag}{H:Hp}{Q:VK}{a b:Addr}{kvs kvs2:List (Key × V)}{ws:Wh}
end
end Tw
namespace L2
open PySem PySem.Spec PyProof.Rows
end L2
namespace Tw
open PySem L2
def WhAt (K:PySem.W.Frag)(H:Hp)(a:Addr)(ws:Wh):Prop:=∃ kvs,H a=some (.dK kvs)/\WR K H ws kvs
end Tw
namespace L2
open PySem PySem.Spec PyProof.Rows
section
variable {X:Cx}
end
section
variable {X:Cx}
end
section
variable {K:PySem.W.Frag}{tl:TE}{tt:TT}{te:TE}{Q:VK}{σ:St}{H:Hp}{a b:Addr}{kvs:List (Key × V)}{g:TG}{tb:TS}{D:b0y}
end
end L2
namespace Tw
open PySem L2
def gm (p q:Int × Int):Int × Int:=(p.1 * q.1 - p.2 * q.2,p.1 * q.2 + p.2 * q.1)
theorem gm_abs {p q:Int × Int}{M N:Nat}(hp:p.1.natAbs < M/\p.2.natAbs < M)(hq:q.1.natAbs < N/\q.2.natAbs < N):(gm p q).1.natAbs < 2 * (M * N)/\(gm p q).2.natAbs < 2 * (M * N):=by
 have m:∀ {a b:Int},a.natAbs < M->b.natAbs < N->(a * b).natAbs < M * N:=fun {a b} ha hb=>by
  rw [Int.natAbs_mul];exact Nat.mul_lt_mul'' ha hb
 have a1:=m hp.1 hq.1;have a2:=m hp.2 hq.2;have a3:=m hp.1 hq.2;have a4:=m hp.2 hq.1;unfold gm
 constructor
 ·show (p.1 * q.1 - p.2 * q.2).natAbs < _;omega
 ·show (p.1 * q.2 + p.2 * q.1).natAbs < _;omega
def wv (ws:Wh)(b:Nat):Int × Int:=(wat ws b).getD (0,0)
end Tw
namespace L2
open PySem PySem.Spec PyProof.Rows
section
variable {prog:Program}{w:World}{A:Around}{E:Value->Shared->Prop}{s:Shared}{K:Type} [DecidableEq K]{knd:KeyKind prog w K}{d:Addr}{kvs:List (K × Value)}{ep:Nat}
end
section
variable {X:Cx}
end
end L2
namespace L2
open PySem PySem.Spec PyProof.Rows
section
variable {X:Cx}{pins:List (Addr × Obj)}{σ:St}{H:Hp}{s:Shared}{a b:Addr}{kvs kvs2:List (Key × V)}{f g:Key->PyData}
end
end L2
namespace Tw
open PySem L2
section
variable {K:PySem.W.Frag}{H:Hp}{Q:VK}{ws us:Wh}{kvs:List (Key × V)}{a b:Addr}
end
end Tw
namespace L2
open PySem PySem.Spec PyProof.Rows
end L2
namespace Tw
open PySem L2
def a0u:List Nat->Nat->Nat
 | [],_=>0
 | v :: vs,w=>(if w.testBit 0=true then v else 0) ^^^ a0u vs (w / 2)
theorem a6h:∀ vs:List Nat,a0u vs 0=0
 | []=>rfl
 | v :: vs=>by
  show (if (0:Nat).testBit 0=true then v else 0) ^^^ a0u vs (0 / 2) = 0;rw [Nat.zero_div,a6h vs,if_neg (by decide)];rfl
theorem if_xor (a b:Bool)(v:Nat):(if (a ^^ b) = true then v else 0) = (if a=true then v else 0) ^^^ (if b=true then v else 0):=by
 cases a <;> cases b <;> simp
theorem x4 (a b c d:Nat):(a ^^^ b) ^^^ (c ^^^ d) = (a ^^^ c) ^^^ (b ^^^ d):=by
 rw [Nat.xor_assoc,Nat.xor_assoc]
 congr 1
 rw [<- Nat.xor_assoc,<- Nat.xor_assoc,Nat.xor_comm b c]
theorem a5q:∀ (vs:List Nat) (a b:Nat),a0u vs (a ^^^ b) = a0u vs a ^^^ a0u vs b
 | [],_,_=>(Nat.xor_self 0).symm
 | v :: vs,a,b=>by
  show (if (a ^^^ b).testBit 0=true then v else 0) ^^^ a0u vs ((a ^^^ b) / 2) = _;rw [Nat.testBit_xor,if_xor,show (a ^^^ b) / 2=(a / 2) ^^^ (b / 2) from Nat.xor_div_two,a5q vs];exact x4 _ _ _ _
theorem a7x:∀ (vs:List Nat) (v w:Nat),a0u (vs ++ [v]) w=a0u vs w ^^^ (if w.testBit vs.length=true then v else 0)
 | [],v,w=>by
  show (if w.testBit 0=true then v else 0) ^^^ 0=0 ^^^ _;rw [Nat.xor_zero,Nat.zero_xor];rfl
 | u :: vs,v,w=>by
  show (if w.testBit 0=true then u else 0) ^^^ a0u (vs ++ [v]) (w / 2) = ((if w.testBit 0=true then u else 0) ^^^ a0u vs (w / 2)) ^^^ _;rw [a7x vs v (w / 2),Nat.xor_assoc]
  congr 2
  rw [List.length_cons,Nat.testBit_succ]
theorem b7u:∀ {vs:List Nat} {k v:Nat},vs[k]? = some v->a0u vs (2 ^ k) = v
 | [],_,_,h=>by cases h
 | u :: vs,0,v,h=>by
  obtain rfl:u=v:=Option.some.inj h;show (if (2 ^ 0:Nat).testBit 0=true then u else 0) ^^^ a0u vs ((2 ^ 0) / 2) = u;rw [show (2 ^ 0:Nat) / 2=0 from rfl,a6h,Nat.xor_zero];rfl
 | u :: vs,k + 1,v,h=>by
  show (if (2 ^ (k + 1):Nat).testBit 0=true then u else 0) ^^^ a0u vs ((2 ^ (k + 1)) / 2) = v;rw [show (2 ^ (k + 1):Nat) / 2=2 ^ k by rw [Nat.pow_succ]; omega,b7u (show vs[k]? = some v from h),show (2 ^ (k + 1):Nat).testBit 0=false by rw [Nat.testBit_zero,Nat.pow_succ]; simp];simp
theorem a5g {j:Nat}:∀ {vs:List Nat} (w:Nat),(∀ v ∈ vs,v.testBit j=false)->(a0u vs w).testBit j=false
 | [],_,_=>Nat.zero_testBit _
 | v :: vs,w,h=>by
  show (_ ^^^ a0u vs (w / 2)).testBit j=false;rw [Nat.testBit_xor,a5g (w / 2) fun u hu=>h u (List.mem_cons_of_mem _ hu)];have:=h v List.mem_cons_self
  split <;> simp [this]
theorem b6r {n:Nat}:∀ {vs:List Nat} (w:Nat),(∀ v ∈ vs,v < 2 ^ n)->a0u vs w < 2 ^ n
 | [],_,_=>Nat.two_pow_pos n
 | v :: vs,w,h=>by
  refine Nat.xor_lt_two_pow ?_ (b6r (w / 2) fun u hu=>h u (List.mem_cons_of_mem _ hu))
  split
  ·exact h v List.mem_cons_self
  ·exact Nat.two_pow_pos n
structure Sm where
 j:Nat
 t:Nat
 p:Nat
def red:List Sm->Nat->Nat->Nat × Nat
 | [],l,w=>(l,w)
 | s :: r,l,w=>if l.testBit s.j=true then red r (l ^^^ s.t) (w ^^^ s.p) else red r l w
def Tot (ss:List Sm)(x:Nat):Prop:=∃ m,a0u (ss.map Sm.t) m=x
theorem Tot.zero (ss:List Sm):Tot ss 0:=⟨0,a6h _⟩
theorem Tot.xor {ss:List Sm}{x y:Nat}(a:Tot ss x)(b:Tot ss y):Tot ss (x ^^^ y):=by
 obtain ⟨m,rfl⟩:=a;obtain ⟨k,rfl⟩:=b;exact ⟨m ^^^ k,a5q _ _ _⟩
theorem Tot.mem {ss:List Sm}{s:Sm}(h:s ∈ ss):Tot ss s.t:=by
 obtain ⟨k,hk⟩:=List.getElem?_of_mem h;exact ⟨2 ^ k,b7u (by rw [List.getElem?_map,hk]; rfl)⟩
theorem Tot.snoc {ss:List Sm}{x:Nat}(s:Sm)(h:Tot ss x):Tot (ss ++ [s]) x:=by
 obtain ⟨m,rfl⟩:=h;refine ⟨m % 2 ^ ss.length,?_⟩;rw [List.map_append,List.map_singleton,a7x,List.length_map,Nat.testBit_mod_two_pow];simp only [Nat.lt_irrefl,decide_false,Bool.false_and,Bool.false_eq_true,if_false,Nat.xor_zero];rw [<- List.length_map (as:=ss) (f:=Sm.t)];generalize ss.map Sm.t=vs
 induction vs generalizing m with
 | nil=>rfl
 | cons v vs ih=>
  show (if (m % 2 ^ (vs.length + 1)).testBit 0=true then v else 0) ^^^ a0u vs (m % 2 ^ (vs.length + 1) / 2) = (if m.testBit 0=true then v else 0) ^^^ a0u vs (m / 2);have h1:(m % 2 ^ (vs.length + 1)).testBit 0=m.testBit 0:=by rw [Nat.testBit_mod_two_pow]; simp
  have h2:m % 2 ^ (vs.length + 1) / 2=(m / 2) % 2 ^ vs.length:=by
   rw [Nat.pow_succ,Nat.mul_comm,Nat.mod_mul_right_div_self]
  rw [h1,h2,ih]
structure SpOk (vs:List Nat)(ss:List Sm):Prop where
 tot:∀ s ∈ ss,s.t=a0u vs s.p
 lt:∀ s ∈ ss,s.p < 2 ^ vs.length
 bit:∀ s ∈ ss,s.t.testBit s.j=true
 ord:ss.Pairwise fun a b=>b.t.testBit a.j=false
 cov:∀ w,Tot ss (a0u vs w)
theorem red_ok {vs:List Nat}:∀ {ss:List Sm} {l w:Nat},(∀ s ∈ ss,s.t=a0u vs s.p)->(∀ s ∈ ss,s.p < 2 ^ vs.length)->∃ p,p < 2 ^ vs.length/\(red ss l w).1=l ^^^ a0u vs p/\(red ss l w).2=w ^^^ p/\Tot ss (a0u vs p)
 | [],l,w,_,_=>⟨0,Nat.two_pow_pos _,by rw [a6h,Nat.xor_zero]; rfl,by rw [Nat.xor_zero]; rfl,by rw [a6h]; exact Tot.zero _⟩
 | s :: r,l,w,h1,h2=>by
  have g1:∀ t ∈ r,t.t=a0u vs t.p:=fun t ht=>h1 t (List.mem_cons_of_mem _ ht);have g2:∀ t ∈ r,t.p < 2 ^ vs.length:=fun t ht=>h2 t (List.mem_cons_of_mem _ ht)
  have up:∀ {x},Tot r x->Tot (s :: r) x:=fun {x} ⟨m,e⟩=>⟨2 * m,by
   show (if (2 * m).testBit 0=true then s.t else 0) ^^^ a0u (r.map Sm.t) (2 * m / 2) = x;rw [Nat.mul_div_cancel_left _ (by decide),e,show (2 * m).testBit 0=false by simp [Nat.testBit_zero]]
   simp⟩
  unfold red
  split
  ·obtain ⟨p,a1,a2,a3,a4⟩:=red_ok (l:=l ^^^ s.t) (w:=w ^^^ s.p) g1 g2;refine ⟨s.p ^^^ p,Nat.xor_lt_two_pow (h2 s List.mem_cons_self) a1,?_,?_,?_⟩
   ·rw [a2,a5q,<- h1 s List.mem_cons_self,Nat.xor_assoc]
   ·rw [a3,Nat.xor_assoc]
   ·rw [a5q,<- h1 s List.mem_cons_self];exact (Tot.mem List.mem_cons_self).xor (up a4)
  ·obtain ⟨p,a1,a2,a3,a4⟩:=red_ok (l:=l) (w:=w) g1 g2;exact ⟨p,a1,a2,a3,up a4⟩
theorem b0p {j:Nat}:∀ {ss:List Sm} {l w:Nat},(∀ s ∈ ss,s.t.testBit j=false)->l.testBit j=false->((red ss l w).1).testBit j=false
 | [],_,_,_,h=>h
 | s :: r,l,w,h1,h=>by
  unfold red
  split
  ·exact b0p (fun t ht=>h1 t (List.mem_cons_of_mem _ ht)) (by rw [Nat.testBit_xor,h,h1 s List.mem_cons_self]; rfl)
  ·exact b0p (fun t ht=>h1 t (List.mem_cons_of_mem _ ht)) h
theorem b7n:∀ {ss:List Sm} {l w:Nat},(∀ s ∈ ss,s.t.testBit s.j=true)->ss.Pairwise (fun a b=>b.t.testBit a.j=false)->∀ s ∈ ss,((red ss l w).1).testBit s.j=false
 | [],_,_,_,_,s,hs=>by cases hs
 | u :: r,l,w,h1,h2,s,hs=>by
  obtain ⟨o1,o2⟩:=List.pairwise_cons.1 h2;have g1:∀ t ∈ r,t.t.testBit t.j=true:=fun t ht=>h1 t (List.mem_cons_of_mem _ ht);unfold red
  rcases List.mem_cons.1 hs with rfl | hs
  ·split
   ·rename_i hb;exact b0p o1 (by rw [Nat.testBit_xor,hb,h1 s List.mem_cons_self]; rfl)
   ·rename_i hb;exact b0p o1 (by simpa using hb)
  ·split
   ·exact b7n g1 o2 s hs
   ·exact b7n g1 o2 s hs
theorem SpOk.nil:SpOk [] []:=⟨fun _ h=>(nomatch h),fun _ h=>(nomatch h),fun _ h=>(nomatch h),.nil,fun w=>⟨0,rfl⟩⟩
theorem SpOk.take {vs:List Nat}{ss:List Sm}(h:SpOk vs ss)(v j:Nat)(hj:(red ss v (2 ^ vs.length)).1 ≠ 0->(red ss v (2 ^ vs.length)).1.testBit j=true) :
  SpOk (vs ++ [v]) (if (red ss v (2 ^ vs.length)).1 ≠ 0 then ss ++ [⟨j,(red ss v (2 ^ vs.length)).1,(red ss v (2 ^ vs.length)).2⟩] else ss):=by
 obtain ⟨p,p1,p2,p3,p4⟩:=red_ok (l:=v) (w:=2 ^ vs.length) h.tot h.lt;have hf:=b7n (l:=v) (w:=2 ^ vs.length) h.bit h.ord;generalize hl:(red ss v (2 ^ vs.length)).1=l at *
 generalize hw:(red ss v (2 ^ vs.length)).2=w at *
 have hp:p.testBit vs.length=false:=Nat.testBit_lt_two_pow p1
 have up:∀ q,q < 2 ^ vs.length->a0u (vs ++ [v]) q=a0u vs q:=fun q hq=>by
  rw [a7x,Nat.testBit_lt_two_pow hq];simp
 have ol:∀ s ∈ ss,s.t=a0u (vs ++ [v]) s.p:=fun s hs=>by rw [up _ (h.lt s hs)]; exact h.tot s hs
 have ll:∀ s ∈ ss,s.p < 2 ^ (vs ++ [v]).length:=fun s hs=>Nat.lt_of_lt_of_le (h.lt s hs) (Nat.pow_le_pow_right (by decide) (by simp));have hv:v=l ^^^ a0u vs p:=by rw [p2,Nat.xor_assoc,Nat.xor_self,Nat.xor_zero]
 have cov:∀ (ss':List Sm),(∀ x,Tot ss x->Tot ss' x)->Tot ss' v->∀ q,Tot ss' (a0u (vs ++ [v]) q):=fun ss' g1 g2 q=>by
  rw [a7x];refine (g1 _ (h.cov q)).xor ?_
  split
  ·exact g2
  ·exact Tot.zero _
 split
 ·rename_i hne;have hwp:w=2 ^ vs.length ^^^ p:=p3
  have hnew:l=a0u (vs ++ [v]) w:=by
   rw [hwp,a5q,up _ p1,a7x]
   have e0:a0u vs (2 ^ vs.length) = 0:=by
    have:∀ (us:List Nat),a0u us (2 ^ us.length) = 0:=fun us=>by
     induction us with
     | nil=>rfl
     | cons u us ih=>
      show (if (2 ^ (us.length + 1):Nat).testBit 0=true then u else 0) ^^^ a0u us ((2 ^ (us.length + 1)) / 2) = 0;rw [show (2 ^ (us.length + 1):Nat) / 2=2 ^ us.length by rw [Nat.pow_succ]; omega,ih,show (2 ^ (us.length + 1):Nat).testBit 0=false by rw [Nat.testBit_zero,Nat.pow_succ]; simp];simp
    exact this vs
   rw [e0,Nat.testBit_two_pow_self,if_pos rfl,Nat.zero_xor];exact p2
  refine ⟨fun s hs=>?_,fun s hs=>?_,fun s hs=>?_,?_,cov _ (fun x hx=>hx.snoc _) ?_⟩
  ·rcases List.mem_append.1 hs with hs | hs
   ·exact ol s hs
   ·rw [List.mem_singleton.1 hs]; exact hnew
  ·rcases List.mem_append.1 hs with hs | hs
   ·exact ll s hs
   ·rw [List.mem_singleton.1 hs];show w < _;rw [hwp,List.length_append,List.length_singleton];exact Nat.xor_lt_two_pow (Nat.pow_lt_pow_right (by decide) (Nat.lt_succ_self _)) (Nat.lt_of_lt_of_le p1 (Nat.pow_le_pow_right (by decide) (Nat.le_succ _)))
  ·rcases List.mem_append.1 hs with hs | hs
   ·exact h.bit s hs
   ·rw [List.mem_singleton.1 hs]; exact hj hne
  ·rw [List.pairwise_append];exact ⟨h.ord,List.pairwise_singleton _ _,fun a ha b hb=>by rw [List.mem_singleton.1 hb]; exact hf a ha⟩
  ·have t1:Tot (ss ++ [⟨j,l,w⟩]) l:=Tot.mem (s:=⟨j,l,w⟩) (by simp);have t2:=t1.xor ((Tot.snoc ⟨j,l,w⟩ p4));rw [hv];exact t2
 ·rename_i hz;have l0:l=0:=by simpa using hz
  refine ⟨ol,ll,h.bit,h.ord,cov _ (fun x hx=>hx) ?_⟩;rw [hv,l0,Nat.zero_xor];exact p4
end Tw
namespace Tw
open PySem L2
variable {k:DK}{i j:Nat}
def pb (u:Nat):Bool:=decide (pop u % 2=1)
theorem a8j (u v:Nat):pb (u ^^^ v) = (pb u ^^ pb v):=by
 unfold pb;have h:=a5p u v;have h1:=Nat.mod_two_eq_zero_or_one (pop u);have h2:=Nat.mod_two_eq_zero_or_one (pop v);rw [Nat.add_mod] at h
 rcases h1 with h1 | h1 <;> rcases h2 with h2 | h2 <;> rw [h,h1,h2] <;> decide
theorem a4j:pb 0=false:=by unfold pb; rw [a7j]; rfl
theorem pop_pow (i:Nat):pop (2 ^ i) = 1:=by
 induction i with
 | zero=>rw [a8q,show (2 ^ 0:Nat) / 2=0 from rfl,a7j]
 | succ i ih=>
  have h:(2 ^ (i + 1):Nat) / 2=2 ^ i:=by rw [Nat.pow_succ]; omega
  have h2:(2 ^ (i + 1):Nat) % 2=0:=by rw [Nat.pow_succ]; omega
  rw [a8q,h,ih,h2]
theorem b1k (u i:Nat):u &&& 2 ^ i=(u.testBit i).toNat * 2 ^ i:=by
 apply Nat.eq_of_testBit_eq;intro q;rw [Nat.testBit_and,Nat.testBit_two_pow,a2a]
 by_cases h:i=q
 ·subst h; simp
 ·simp [h]
theorem b5v (b:Bool)(i:Nat):pb (b.toNat * 2 ^ i) = b:=by
 cases b
 ·simp [a4j]
 ·unfold pb; simp [pop_pow]
theorem a8r (u:Nat)(b:Bool)(i:Nat):u &&& b.toNat * 2 ^ i=(b && u.testBit i).toNat * 2 ^ i:=by
 cases b
 ·simp
 ·rw [Bool.toNat_true,Nat.one_mul,b1k,Bool.true_and]
theorem a9x (u:Nat)(b:Bool)(i:Nat):b.toNat * 2 ^ i &&& u=(b && u.testBit i).toNat * 2 ^ i:=by rw [Nat.and_comm,a8r]
def a4z (r s:Row):Bool:=pb (r.x &&& s.z) ^^ pb (r.z &&& s.x)
theorem tb_bpow (b:Bool)(i q:Nat):(b.toNat * 2 ^ i).testBit q=(b && decide (i=q)):=by
 cases b
 ·simp
 ·rw [Bool.toNat_true,Nat.one_mul,Nat.testBit_two_pow,Bool.true_and]
theorem actW_symp (hj:k.n=2->i ≠ j)(r s:Row):a4z (a5e k i j r) (a5e k i j s) = a4z r s:=by
 cases k with
 | over=>rfl
 | quarter=>
  simp only [a4z,a5e,a3n,a3d,a8j,a8r,a9x,b5v];generalize r.x.testBit i=a; generalize s.x.testBit i=b; generalize pb (r.x &&& s.z) = p; generalize pb (r.z &&& s.x) = q
  revert a b p q; decide
 | back=>
  simp only [a4z,a5e,a3n,a3d,a8j,a8r,a9x,b5v];generalize r.x.testBit i=a; generalize s.x.testBit i=b; generalize pb (r.x &&& s.z) = p; generalize pb (r.z &&& s.x) = q
  revert a b p q; decide
 | both=>
  simp only [a4z,a5e,a3n,a3d,a8j,a8r,a9x,b5v,Nat.testBit_xor,tb_bpow,decide_true,Bool.and_true];generalize r.x.testBit i=a; generalize s.x.testBit i=b; generalize r.z.testBit i=c; generalize s.z.testBit i=d; generalize pb (r.x &&& s.z) = p; generalize pb (r.z &&& s.x) = q
  revert a b c d p q; decide
 | wher=>
  have h:=hj rfl;have h':¬ j=i:=fun z=>h z.symm;simp only [a4z,a5e,a3n,a3d,a8j,a8r,a9x,b5v,Nat.testBit_xor,tb_bpow,h,h',decide_false,Bool.and_false,Bool.xor_false];generalize r.x.testBit i=a; generalize s.x.testBit i=b; generalize r.z.testBit j=c; generalize s.z.testBit j=d; generalize pb (r.x &&& s.z) = p; generalize pb (r.z &&& s.x) = q
  revert a b c d p q; decide
 | swap=>
  have h:=hj rfl;have h':¬ j=i:=fun z=>h z.symm;simp only [a4z,a5e,ex,a3n,a3d,a8j,a8r,a9x,b5v,Nat.testBit_xor,tb_bpow,h,h',decide_false,decide_true,Bool.and_true,Bool.and_false,Bool.xor_false];generalize r.x.testBit i=a; generalize s.x.testBit i=b; generalize r.z.testBit j=c; generalize s.z.testBit j=d;generalize r.x.testBit j=a'; generalize s.x.testBit j=b'; generalize r.z.testBit i=c'; generalize s.z.testBit i=d';generalize pb (r.x &&& s.z) = p; generalize pb (r.z &&& s.x) = q
  revert a b c d a' b' c' d' p q; decide +kernel
theorem act_symp {d:Dd}{n:Nat}(ok:d.Ok n)(r s:Row):a4z (act d r) (act d s) = a4z r s:=actW_symp (fun e=>(ok.one.2.1 e).2) r s
theorem acts_symp {n:Nat}:∀ {ds:List Dd},(∀ d ∈ ds,d.Ok n)->∀ r s,a4z (b0w ds r) (b0w ds s) = a4z r s
 | [],_,_,_=>rfl
 | d :: ds,h,r,s=>by
  show a4z (b0w ds (act d r)) (b0w ds (act d s)) = _;rw [acts_symp (fun c hc=>h c (List.mem_cons_of_mem _ hc)),act_symp (h d List.mem_cons_self)]
theorem a4d (a b:Bool)(k:Nat):(a ^^ b).toNat * 2 ^ k=a.toNat * 2 ^ k ^^^ b.toNat * 2 ^ k:=by
 cases a <;> cases b <;> simp
def Add3 (r s t:Row):Prop:=t.x=r.x ^^^ s.x/\t.z=r.z ^^^ s.z
theorem xx4 (a b c d:Nat):a ^^^ b ^^^ (c ^^^ d) = a ^^^ c ^^^ (b ^^^ d):=x4 a b c d
theorem actW_add {r s t:Row}(h:Add3 r s t):Add3 (a5e k i j r) (a5e k i j s) (a5e k i j t):=by
 obtain ⟨hx,hz⟩:=h;have e4:∀ a b c d:Bool,((a ^^ b) ^^ (c ^^ d)) = ((a ^^ c) ^^ (b ^^ d)):=by decide
 cases k with
 | over=>exact ⟨hx,hz⟩
 | quarter=>exact ⟨hx,by simp only [a5e,hx,hz,Nat.testBit_xor,a4d]; exact xx4 _ _ _ _⟩
 | back=>exact ⟨hx,by simp only [a5e,hx,hz,Nat.testBit_xor,a4d]; exact xx4 _ _ _ _⟩
 | both=>
  constructor
  ·simp only [a5e,hx,hz,Nat.testBit_xor];rw [e4,a4d];exact xx4 _ _ _ _
  ·simp only [a5e,hx,hz,Nat.testBit_xor];rw [e4,a4d];exact xx4 _ _ _ _
 | wher=>exact ⟨by simp only [a5e,hx,hz,Nat.testBit_xor,a4d]; exact xx4 _ _ _ _,by simp only [a5e,hx,hz,Nat.testBit_xor,a4d]; exact xx4 _ _ _ _⟩
 | swap=>
  have key:∀ a b:Nat,ex (a ^^^ b) i j=ex a i j ^^^ ex b i j:=fun a b=>by
   simp only [ex,Nat.testBit_xor];rw [e4];generalize (a.testBit i ^^ a.testBit j) = u;generalize (b.testBit i ^^ b.testBit j) = v;rw [a4d,a4d,xx4 a,xx4 (a ^^^ u.toNat * 2 ^ i)]
  exact ⟨by show ex t.x i j=ex r.x i j ^^^ ex s.x i j; rw [hx,key],by show ex t.z i j=ex r.z i j ^^^ ex s.z i j; rw [hz,key]⟩
theorem b2u:∀ {ds:List Dd} {r s t:Row},Add3 r s t->Add3 (b0w ds r) (b0w ds s) (b0w ds t)
 | [],_,_,_,h=>h
 | d :: ds,_,_,_,h=>b2u (ds:=ds) (actW_add h)
end Tw
namespace Tw
open PySem L2
variable {ds:List Dd}{l m:List Nat}{a b w:Nat}{r s:Row}
def Spn (l:List Nat)(v:Nat):Prop:=∃ m,m < 2 ^ l.length/\a0u l m=v
theorem sp_nil (v:Nat):Spn [] v ↔ v=0:=⟨fun ⟨_,_,e⟩=>e.symm,fun e=>⟨0,by decide,e.symm⟩⟩
theorem xor_flip {c:Nat}(h:a ^^^ b=c):b=c ^^^ a:=by
 rw [<- h,Nat.xor_comm a b,Nat.xor_assoc,Nat.xor_self,Nat.xor_zero]
theorem a3m (b:Nat)(l:List Nat)(v:Nat):Spn (b :: l) v ↔ Spn l v\/Spn l (v ^^^ b):=by
 constructor
 ·rintro ⟨m,hm,e⟩;have hm2:m / 2 < 2 ^ l.length:=by rw [List.length_cons,Nat.pow_succ] at hm; omega
  have e':(if m.testBit 0=true then b else 0) ^^^ a0u l (m / 2) = v:=e
  by_cases h:m.testBit 0=true
  ·rw [if_pos h] at e';exact .inr ⟨m / 2,hm2,xor_flip e'⟩
  ·rw [if_neg h,Nat.zero_xor] at e';exact .inl ⟨m / 2,hm2,e'⟩
 ·rintro (⟨m,hm,e⟩ | ⟨m,hm,e⟩)
  ·refine ⟨2 * m,by rw [List.length_cons,Nat.pow_succ]; omega,?_⟩;show (if (2 * m).testBit 0=true then b else 0) ^^^ a0u l (2 * m / 2) = v;rw [Nat.mul_div_cancel_left _ (by decide),e,show (2 * m).testBit 0=false by simp [Nat.testBit_zero]];simp
  ·refine ⟨2 * m + 1,by rw [List.length_cons,Nat.pow_succ]; omega,?_⟩;show (if (2 * m + 1).testBit 0=true then b else 0) ^^^ a0u l ((2 * m + 1) / 2) = v;rw [show (2 * m + 1) / 2=m by omega,e,show (2 * m + 1).testBit 0=true by simp [Nat.testBit_zero]];rw [if_pos rfl,Nat.xor_comm,Nat.xor_assoc,Nat.xor_self,Nat.xor_zero]
theorem xr (a b c:Nat):a ^^^ b ^^^ c=a ^^^ c ^^^ b:=by rw [Nat.xor_assoc,Nat.xor_assoc,Nat.xor_comm b c]
theorem sp_perm (h:l.Perm m):∀ v,Spn l v ↔ Spn m v:=by
 induction h with
 | nil=>exact fun _=>Iff.rfl
 | cons x _ ih=>exact fun v=>by rw [a3m,a3m,ih,ih]
 | swap x y l=>
  intro v;rw [a3m,a3m,a3m,a3m,a3m,a3m,xr v x y]
  constructor
  ·rintro ((h | h) | (h | h))
   ·exact .inl (.inl h)
   ·exact .inr (.inl h)
   ·exact .inl (.inr h)
   ·exact .inr (.inr h)
  ·rintro ((h | h) | (h | h))
   ·exact .inl (.inl h)
   ·exact .inr (.inl h)
   ·exact .inl (.inr h)
   ·exact .inr (.inr h)
 | trans _ _ h1 h2=>exact fun v=>(h1 v).trans (h2 v)
def Ind:List Nat->Prop
 | []=>True
 | b :: l=>¬ Spn l b/\Ind l
theorem ind_perm (h:l.Perm m):Ind l->Ind m:=by
 induction h with
 | nil=>exact id
 | cons x p ih=>exact fun ⟨h1,h2⟩=>⟨fun z=>h1 ((sp_perm p x).2 z),ih h2⟩
 | swap x y l=>
  rintro ⟨h1,h2,h3⟩;refine ⟨fun z=>?_,fun z=>h1 ((a3m _ _ _).2 (.inl z)),h3⟩
  rcases (a3m _ _ _).1 z with z | z
  ·exact h2 z
  ·exact h1 ((a3m _ _ _).2 (.inr (by rw [Nat.xor_comm]; exact z)))
 | trans _ _ h1 h2=>exact fun h=>h2 (h1 h)
theorem b8k:∀ {l:List Nat},Ind l->∀ {a b:Nat},a < 2 ^ l.length->b < 2 ^ l.length->a0u l a=a0u l b->a=b
 | [],_,a,b,ha,hb,_=>by simp at ha hb; omega
 | v :: l,⟨h1,h2⟩,a,b,ha,hb,e=>by
  rw [List.length_cons,Nat.pow_succ] at ha hb;have e':(if a.testBit 0=true then v else 0) ^^^ a0u l (a / 2) = (if b.testBit 0=true then v else 0) ^^^ a0u l (b / 2):=e
  have no:∀ c d,c < 2 ^ l.length->d < 2 ^ l.length->v ^^^ a0u l c=a0u l d->False:=fun c d hc hd z=>h1 ⟨d ^^^ c,Nat.xor_lt_two_pow hd hc,by
   rw [a5q,<- z,Nat.xor_assoc,Nat.xor_self,Nat.xor_zero]⟩
  have key:a.testBit 0=b.testBit 0/\a0u l (a / 2) = a0u l (b / 2):=by
   by_cases ha0:a.testBit 0=true <;> by_cases hb0:b.testBit 0=true
   ·rw [if_pos ha0,if_pos hb0] at e';refine ⟨ha0.trans hb0.symm,?_⟩;have:=congrArg (v ^^^ ·) e'
    simp only [<- Nat.xor_assoc,Nat.xor_self,Nat.zero_xor] at this;exact this
   ·rw [if_pos ha0,if_neg hb0,Nat.zero_xor] at e';exact (no _ _ (by omega) (by omega) e').elim
   ·rw [if_neg ha0,if_pos hb0,Nat.zero_xor] at e';exact (no _ _ (by omega) (by omega) e'.symm).elim
   ·rw [if_neg ha0,if_neg hb0,Nat.zero_xor,Nat.zero_xor] at e';exact ⟨(eq_false_of_ne_true ha0).trans (eq_false_of_ne_true hb0).symm,e'⟩
  have e2:=b8k h2 (a:=a / 2) (b:=b / 2) (by omega) (by omega) key.2;have e3:=key.1;rw [Nat.testBit_zero,Nat.testBit_zero,decide_eq_decide] at e3;omega
def NR (r:Row):Nat:=r.x ^^^ r.z * 2 ^ 40
theorem sn_inj {x z x' z':Nat}(hx:x < 2 ^ w)(hx':x' < 2 ^ w)(h:x ^^^ z * 2 ^ w=x' ^^^ z' * 2 ^ w):x=x'/\z=z':=by
 have b1:∀ {a c:Nat},a < 2 ^ w->∀ i,i < w->(a ^^^ c * 2 ^ w).testBit i=a.testBit i:=fun {a c} ha i hi=>by
  rw [Nat.testBit_xor,<- Nat.shiftLeft_eq,Nat.testBit_shiftLeft];simp [Nat.not_le.2 hi]
 have b2:∀ {a c:Nat},a < 2 ^ w->∀ i,(a ^^^ c * 2 ^ w).testBit (w + i) = c.testBit i:=fun {a c} ha i=>by
  rw [Nat.testBit_xor,<- Nat.shiftLeft_eq,Nat.testBit_shiftLeft,Nat.testBit_lt_two_pow (Nat.lt_of_lt_of_le ha (Nat.pow_le_pow_right (by decide) (Nat.le_add_right _ _)))];simp
 constructor
 ·apply Nat.eq_of_testBit_eq;intro i
  rcases Nat.lt_or_ge i w with hi | hi
  ·rw [<- b1 (c:=z) hx i hi,h,b1 hx' i hi]
  ·rw [Nat.testBit_lt_two_pow (Nat.lt_of_lt_of_le hx (Nat.pow_le_pow_right (by decide) hi)),Nat.testBit_lt_two_pow (Nat.lt_of_lt_of_le hx' (Nat.pow_le_pow_right (by decide) hi))]
 ·apply Nat.eq_of_testBit_eq;intro i;rw [<- b2 (c:=z) hx i,h,b2 hx' i]
theorem mul_xor (a b k:Nat):(a ^^^ b) * 2 ^ k=a * 2 ^ k ^^^ b * 2 ^ k:=by
 rw [<- Nat.shiftLeft_eq,<- Nat.shiftLeft_eq,<- Nat.shiftLeft_eq];exact Nat.shiftLeft_xor_distrib
theorem sn_sel (w:Nat):∀ (rs:List Row) (m:Nat),a0u (rs.map fun r=>r.x ^^^ r.z * 2 ^ w) m=a0u (rs.map Row.x) m ^^^ a0u (rs.map Row.z) m * 2 ^ w
 | [],m=>by simp [a0u]
 | r :: rs,m=>by
  show (if m.testBit 0=true then r.x ^^^ r.z * 2 ^ w else 0) ^^^ a0u (rs.map fun r=>r.x ^^^ r.z * 2 ^ w) (m / 2) = ((if m.testBit 0=true then r.x else 0) ^^^ a0u (rs.map Row.x) (m / 2)) ^^^ ((if m.testBit 0=true then r.z else 0) ^^^ a0u (rs.map Row.z) (m / 2)) * 2 ^ w;rw [sn_sel w rs (m / 2),mul_xor]
  split
  ·exact x4 _ _ _ _
  ·simp
def Lsel (rs:List Row)(m:Nat)(r:Row):Prop:=a0u (rs.map Row.x) m=r.x/\a0u (rs.map Row.z) m=r.z
theorem lsel_sn {rs:List Row}(hrs:∀ s ∈ rs,s.x < 2 ^ w)(hr:r.x < 2 ^ w)(m:Nat):a0u (rs.map fun r=>r.x ^^^ r.z * 2 ^ w) m=r.x ^^^ r.z * 2 ^ w ↔ Lsel rs m r:=by
 rw [sn_sel]
 constructor
 ·intro h;exact sn_inj (b6r m fun v hv=>by obtain ⟨s,hs,rfl⟩:=List.mem_map.1 hv; exact hrs s hs) hr h
 ·rintro ⟨h1,h2⟩;rw [h1,h2]
theorem acts_let (hx:r.x=s.x)(hz:r.z=s.z):(b0w ds r).x=(b0w ds s).x/\(b0w ds r).z=(b0w ds s).z:=by
 have h:=b2u (ds:=ds) (r:=r) (s:=⟨0,0,0⟩) (t:=s) ⟨by rw [Nat.xor_zero]; exact hx.symm,by rw [Nat.xor_zero]; exact hz.symm⟩
 have h0:(b0w ds ⟨0,0,0⟩).x=0/\(b0w ds ⟨0,0,0⟩).z=0:=by
  have h:=b2u (ds:=ds) (r:=⟨0,0,0⟩) (s:=⟨0,0,0⟩) (t:=⟨0,0,0⟩) ⟨rfl,rfl⟩;exact ⟨by rw [h.1,Nat.xor_self],by rw [h.2,Nat.xor_self]⟩
 refine ⟨?_,?_⟩
 ·rw [h.1,h0.1,Nat.xor_zero]
 ·rw [h.2,h0.2,Nat.xor_zero]
def im (ds:List Dd)(v:Nat):Row:=b0w ds ⟨0,0,v⟩
theorem im_xor (ds:List Dd)(a b:Nat):NR (im ds (a ^^^ b)) = NR (im ds a) ^^^ NR (im ds b):=by
 have h:=b2u (ds:=ds) (r:=⟨0,0,a⟩) (s:=⟨0,0,b⟩) (t:=⟨0,0,a ^^^ b⟩) ⟨(Nat.xor_self 0).symm,rfl⟩;show (b0w ds ⟨0,0,a ^^^ b⟩).x ^^^ (b0w ds ⟨0,0,a ^^^ b⟩).z * 2 ^ 40=_;rw [h.1,h.2,mul_xor];exact x4 _ _ _ _
theorem b5k {n v:Nat}(h:∀ d ∈ ds,d.Ok n)(hv:v < 2 ^ n):(im ds v).Ok n:=acts_ok ⟨Nat.zero_le _,Nat.two_pow_pos n,hv⟩ h
theorem im_inj {n:Nat}(hn:n <= 40)(h:∀ d ∈ ds,d.Ok n)(ha:a < 2 ^ n)(hb:b < 2 ^ n)(e:NR (im ds a) = NR (im ds b)):a=b:=by
 have p:=Nat.pow_le_pow_right (show 0 < 2 by decide) hn;obtain ⟨e1,e2⟩:=sn_inj (Nat.lt_of_lt_of_le (b5k h ha).x p) (Nat.lt_of_lt_of_le (b5k h hb).x p) e;have h2:=(acts_let (ds:=undo ds) e1 e2).2;unfold im at h2;rw [a7r h,a7r h] at h2;exact h2
theorem sp_snoc (l:List Nat)(b v:Nat):Spn (l ++ [b]) v ↔ Spn l v\/Spn l (v ^^^ b):=by
 rw [sp_perm (List.perm_append_comm (l₁:=l) (l₂:=[b]))];exact a3m b l v
theorem b6j (h:Ind l)(hb:¬ Spn l b):Ind (l ++ [b]):=ind_perm (List.perm_append_comm (l₁:=[b]) (l₂:=l)) (show Ind (b :: l) from ⟨hb,h⟩)
structure Mx (ds:List Dd)(n many:Nat)(rs:List Row):Prop where
 len:rs.length=many
 ok:∀ r ∈ rs,r.Ok n
 com:∀ r ∈ rs,∀ s ∈ rs,a4z r s=false
 sp:∀ u,Spn (rs.map NR) u ↔ ∃ v,v < 2 ^ many/\NR (im ds v) = u
 ind:Ind (rs.map NR)
theorem symp_im {n:Nat}(h:∀ d ∈ ds,d.Ok n)(a b:Nat):a4z (im ds a) (im ds b) = false:=by
 unfold im;rw [acts_symp h];show (pb (0 &&& b) ^^ pb (a &&& 0)) = false;rw [Nat.zero_and,Nat.and_zero,a4j];rfl
theorem Mx.plain {ds:List Dd}{n:Nat}(hn:n <= 40)(h:∀ d ∈ ds,d.Ok n):∀ {many:Nat},many <= n->Mx ds n many ((List.range many).map fun k=>im ds (2 ^ k))
 | 0,_=>by
  refine ⟨rfl,fun _ h=>(nomatch h),fun _ h=>(nomatch h),fun u=>?_,trivial⟩;rw [show ((List.range 0).map fun k=>im ds (2 ^ k)).map NR=[] from rfl,sp_nil]
  have e0:NR (im ds 0) = 0:=by
   have:=im_xor ds 0 0;rw [Nat.xor_self,Nat.xor_self] at this;exact this
  constructor
  ·rintro rfl;exact ⟨0,by decide,e0⟩
  ·rintro ⟨v,hv,rfl⟩;have:v=0:=by simp at hv; omega
   rw [this,e0]
 | many + 1,hm=>by
  have ih:=Mx.plain hn h (many:=many) (by omega);have e:((List.range (many + 1)).map fun k=>im ds (2 ^ k)) = ((List.range many).map fun k=>im ds (2 ^ k)) ++ [im ds (2 ^ many)]:=by rw [List.range_succ,List.map_append]; rfl
  have lt:∀ {k},k < n->(2:Nat) ^ k < 2 ^ n:=fun hk=>Nat.pow_lt_pow_right (by decide) hk;have pm:(2:Nat) ^ (many + 1) <= 2 ^ n:=Nat.pow_le_pow_right (by decide) hm;have pm2:(2:Nat) ^ (many + 1) = 2 ^ many + 2 ^ many:=by rw [Nat.pow_succ]; omega
  have low:∀ v,v < 2 ^ many->v ^^^ 2 ^ many=v + 2 ^ many:=fun v hv=>by
   have h1:=Nat.two_pow_add_eq_or_of_lt hv 1;have h2:=a2x v (2 ^ many);have h3:v &&& 2 ^ many=0:=by rw [b1k,Nat.testBit_lt_two_pow hv]; simp
   have h4:=a4y v (2 ^ many);omega
  refine ⟨by rw [List.length_map,List.length_range],fun r hr=>?_,fun r hr s hs=>?_,fun u=>?_,?_⟩
  ·obtain ⟨k,hk,rfl⟩:=List.mem_map.1 hr;exact b5k h (lt (by have:=List.mem_range.1 hk; omega))
  ·obtain ⟨k,hk,rfl⟩:=List.mem_map.1 hr;obtain ⟨k',hk',rfl⟩:=List.mem_map.1 hs;exact symp_im h _ _
  ·rw [e,List.map_append,List.map_singleton,sp_snoc,ih.sp,ih.sp]
   constructor
   ·rintro (⟨v,hv,rfl⟩ | ⟨v,hv,e2⟩)
    ·exact ⟨v,by omega,rfl⟩
    ·refine ⟨v ^^^ 2 ^ many,by rw [low v hv]; omega,?_⟩;rw [im_xor,e2,Nat.xor_assoc,Nat.xor_self,Nat.xor_zero]
   ·rintro ⟨v,hv,rfl⟩
    rcases Nat.lt_or_ge v (2 ^ many) with hv2 | hv2
    ·exact .inl ⟨v,hv2,rfl⟩
    ·refine .inr ⟨v - 2 ^ many,by omega,?_⟩;have e3:v=(v - 2 ^ many) ^^^ 2 ^ many:=by rw [low _ (by omega)]; omega
     conv=>rhs; rw [e3]
     rw [im_xor,Nat.xor_assoc,Nat.xor_self,Nat.xor_zero]
  ·rw [e,List.map_append,List.map_singleton];refine b6j ih.ind fun z=>?_;obtain ⟨v,hv,e2⟩:=(ih.sp _).1 z;have:=im_inj hn h (by omega) (lt (by omega)) e2;omega
theorem symp_add {t u:Row}(h:Add3 r s t):a4z t u=(a4z r u ^^ a4z s u):=by
 unfold a4z;rw [h.1,h.2,a3d,a3d,a8j,a8j];generalize pb (r.x &&& u.z) = a; generalize pb (s.x &&& u.z) = b; generalize pb (r.z &&& u.x) = c; generalize pb (s.z &&& u.x) = d
 revert a b c d; decide
theorem a6d (r s:Row):a4z r s=a4z s r:=by
 unfold a4z;rw [Nat.and_comm r.x s.z,Nat.and_comm r.z s.x];exact Bool.xor_comm _ _
end Tw
namespace Tw
open PySem L2
def tmq (r s:Row):Int:=(pop (r.x &&& r.z):Int) + (pop (s.x &&& s.z):Int) + 2 * (pop (r.z &&& s.x):Int) - (pop ((r.x ^^^ s.x) &&& (r.z ^^^ s.z)):Int)
def tm (r s:Row):Row:=⟨(((r.m:Int) + (s.m:Int) + tmq r s / 2) % 2).toNat,r.x ^^^ s.x,r.z ^^^ s.z⟩
theorem symp_pop (r s:Row):a4z r s=false ↔ pop ((r.x &&& s.z) ^^^ (r.z &&& s.x)) % 2=0:=by
 unfold a4z;rw [<- a8j];unfold pb;rw [decide_eq_false_iff_not];omega
def pr (us:List Row):Row:=us.foldl tm ⟨0,0,0⟩
theorem symp_zero (s:Row):a4z ⟨0,0,0⟩ s=false:=by
 unfold a4z;show (pb (0 &&& s.z) ^^ pb (0 &&& s.x)) = false;rw [Nat.zero_and,Nat.zero_and,a4j];rfl
end Tw
namespace L2
open PySem PySem.Spec PyProof.Rows
section
variable {prog:Program}{w:World}{A:Around}{E:Value->Shared->Prop}{s:Shared}
end
section
variable {X:Cx}{o i value:Expr}{td ty tv:TE}{pos pos':Pos}
end
end L2
namespace L2
open PySem PySem.Spec PyProof.Rows
variable {sc:Scope}{s:Shared}
theorem b8j {M:Model}{A:Around}{E:Value->Shared->Prop}{scope:Scope}{x2:Str}{globals:Addr}{cl:List (Str × Addr)}{qual:Str}{env:Env}{Q:Env->Shared->Prop}
  (lay:∀ a cl,cellsFrom a scope.names cl=(x2,a) :: cl)
  (hQ:∀ h',h'.Ns s.heap.objs.size (fun _=>none)->h'.IsCell (s.heap.objs.size + 1) none->(∀ b o,s.heap.get? b=some o->h'.get? b=some o)->
   Q (newEnv scope s.heap.objs.size globals ((x2,s.heap.objs.size + 1) :: cl) qual none .none (some env) builtinsNs) { s with heap:=h' }) :
  wpAny M A (newFunctionEnv scope globals cl [] qual none .none (some env)) Q E s:=by
 simp only [newFunctionEnv,Option.isSome_some,if_true];refine wpAny_bind (wpAny_alloc ?_);refine wpAny_bind (wpAny_layCells _ (fun name kind cells=>by cases hkc:kind == NameKind.cell <;> simp [hkc]) _ _ _ _ ?_)
 rw [show ({ s with heap:=s.heap.push { cls:=.type "dict",data:=.dict #[] } }:Shared).heap.objs.size=s.heap.objs.size + 1 from Heap.size_push ..,lay,List.forIn_nil];have ok:=cellsFrom_ok scope.names (s.heap.push { cls:=.type "dict",data:=.dict #[] }) (s.heap.objs.size + 1) [] ⟨fun _ _ hm=>(nomatch hm),List.Pairwise.nil⟩ (by rw [Heap.size_push]; exact Nat.le_refl _);rw [Heap.size_push,lay] at ok;refine wpAny_bind (wpAny_pure (wpAny_pure (hQ _ ((Heap.Ns.new s.heap (.type "dict")).keeps (pushCells_keeps _ _)) (ok.empty x2 _ List.mem_cons_self).1 fun b o e=>pushCells_keeps _ _ b o (Heap.get?_push_of_some _ e))))
theorem a7u {a b:Str}(h:a ≠ b):(a == b) = false:=beq_eq_false_iff_ne.mpr h
structure a1v (sc:Scope)(x x2:Str)(scope:Scope):Prop where
 kind:scope.kind=.function
 cell:∀ y ∈ scope.names,y.2=.cell->y.1=x2
 lay:∀ a cl,cellsFrom a scope.names cl=(x2,a) :: cl
 own:scope.names.lookup x=some .local
 own2:scope.names.lookup x2=some .cell
 loc:∀ y ∈ scope.names,y.2=.local->y.1=x\/y.1=(".0":Str)
 nam:∀ y ∈ scope.names,y.2=.local->scope.names.lookup y.1=some .local
 free:∀ y ∈ scope.names,y.2=.free->sc.names.lookup y.1=some .cell\/sc.names.lookup y.1=some .free
 two:∀ y ∈ scope.names,y.2=.free->y.1 ≠ x/\y.1 ≠ x2
def Cx.compN (X:Cx)(M:List Str)(scope:Scope)(x x2:Str)(C:Addr)(s:Shared)(H:Hp)(ex:List Addr):Cx:=
 { X with N:=x :: x2 :: M,s₀:=s,H₀:=H,env:=compEnvC scope ((x2,C + 1) :: b7r X.env scope.names []) C X.env,outer:=X.stack,ex:=ex,fn:=fun y=>y == x2,pn:=[],xe:=fun _ _=>False }
section
variable {X:Cx}{M:List Str}{pins:List (Addr × Obj)}{σ:St}{H:Hp}{s:Shared}{scope:Scope}{x x2:Str}
theorem a1v.has (S:a1v X.env.scope x x2 scope)(ok:X.Ok):∀ p ∈ scope.names,p.2=.free->∃ c,X.env.cells.lookup p.1=some c:=fun p hp e=>ok.has p.1 (S.free p hp e)
theorem a1v.cells (S:a1v X.env.scope x x2 scope)(ok:X.Ok){y:Str}{c:Addr}(e:(b7r X.env scope.names []).lookup y=some c):X.env.cells.lookup y=some c:=by
 rcases a6y X.env scope.names [] (S.has ok) c e with z | z
 ·cases z
 ·exact z
theorem a1v.cases (S:a1v X.env.scope x x2 scope)(ok:X.Ok){C:Addr}{y:Str}{c:Addr}(e:((x2,C) :: b7r X.env scope.names []).lookup y=some c):(y=x2/\c=C)\/(y ≠ x2/\X.env.cells.lookup y=some c):=by
 rw [List.lookup_cons] at e
 cases hb:y == x2 with
 | true=>rw [hb] at e; cases e; exact .inl ⟨eq_of_beq hb,rfl⟩
 | false=>rw [hb] at e; exact .inr ⟨(fun z=>by rw [z,beq_self_eq_true] at hb; cases hb),S.cells ok e⟩
theorem a1v.rl2 (S:a1v X.env.scope x x2 scope):(relabel scope X.env).names.lookup x2=some .cell:=by
 rw [a1p,S.own2,Option.map_some];unfold rlb;have:(NameKind.cell == NameKind.free) = false:=by decide
 rw [this];rfl
theorem a1v.sees (S:a1v X.env.scope x x2 scope){y:Str}(hy2:y ≠ x2)(hy:(relabel scope X.env).names.lookup y ≠ some .local)(hv:Vis (relabel scope X.env) y):(y,NameKind.free) ∈ scope.names/\((relabel scope X.env).names.lookup y=some .cell\/(relabel scope X.env).names.lookup y=some .free):=by
 unfold Vis at hv;rw [a1p] at hv ⊢
 cases e:scope.names.lookup y with
 | none=>rw [e] at hv; rcases hv with z | z | z <;> cases z
 | some k=>
  have hm:=mem_of_lookup e;rw [e] at hv
  have hk:k=.free:=by
   by_cases hf:k=.free
   ·exact hf
   ·have hr:rlb X.env y k=k:=by
     unfold rlb;have:(k == NameKind.free) = false:=by simpa using hf
     rw [this]; rfl
    rw [Option.map_some,hr] at hv
    rcases hv with z | z | z
    ·rw [a1p,e,Option.map_some,hr] at hy;exact absurd z hy
    ·exact absurd (S.cell _ hm (Option.some.inj z)) hy2
    ·exact Option.some.inj z
  subst hk;refine ⟨hm,?_⟩;rw [Option.map_some];unfold rlb
  split
  ·exact .inl rfl
  ·exact .inr rfl
theorem a1v.ok (S:a1v X.env.scope x x2 scope)(I:Inv X pins σ H s){C:Addr}(hC:s.heap.objs.size <= C){fp:List Addr}(hf:∀ b ∈ fp,FpOk X pins H b)(hl:∀ b ∈ fp,b < s.heap.objs.size):(X.compN M scope x x2 C s H fp).Ok where
 mod:=I.ok.mod
 kind:=S.kind
 glob:=I.ok.glob
 blt:=I.ok.blt
 above:=hC
 inj:=fun y z c e1 e2=>by
  have lt:∀ {u:Str} {c:Addr},X.env.cells.lookup u=some c->c < s.heap.objs.size:=fun {u c} e=>by
   obtain ⟨v,q⟩:=I.cell u c e;exact q.lt
  rcases S.cases I.ok e1 with ⟨a1,b1⟩ | ⟨a1,b1⟩ <;> rcases S.cases I.ok e2 with ⟨a2,b2⟩ | ⟨a2,b2⟩
  ·rw [a1,a2]
  ·have h2:=lt b2; rw [b1] at h2; exact absurd (Nat.lt_of_lt_of_le h2 hC) (by exact Nat.not_lt.mpr (Nat.le_succ _))
  ·have h2:=lt b1; rw [b2] at h2; exact absurd (Nat.lt_of_lt_of_le h2 hC) (by exact Nat.not_lt.mpr (Nat.le_succ _))
  ·exact I.ok.inj y z c b1 b2
 has:=fun y hy=>by
  have hv:Vis (relabel scope X.env) y:=.inr hy
  have hne:(relabel scope X.env).names.lookup y ≠ some .local:=fun e=>by
   have hy':(relabel scope X.env).names.lookup y=some .cell\/(relabel scope X.env).names.lookup y=some .free:=hy;rw [e] at hy'
   rcases hy' with q | q <;> cases q
  by_cases hy2:y=x2
  ·exact ⟨C + 1,by show List.lookup y ((x2,C + 1) :: _) = _; rw [hy2,List.lookup_cons,beq_self_eq_true]⟩
  ·obtain ⟨c,hc⟩:=a8s X.env scope.names [] (.inl (S.sees hy2 hne hv).1);refine ⟨c,?_⟩;show List.lookup y ((x2,C + 1) :: _) = _;rw [List.lookup_cons,a7u hy2];exact hc
 cab:=fun y c z e=>by
  have z':y=x2:=eq_of_beq z
  rcases S.cases I.ok e with ⟨_,b1⟩ | ⟨a1,_⟩
  ·show s.heap.objs.size <= c; rw [b1]; exact Nat.le_succ_of_le hC
  ·exact absurd z' a1
 hd:=I.ok.hd
 frames:=I.ok.frames
 stk:=.inl rfl
 exf:=fun b hb=>⟨fun z=>by
   have h1:=hl b hb;have z':b=C:=z;rw [z'] at h1
   exact Nat.not_le.mpr h1 hC,fun y c e=>by
   rcases S.cases I.ok e with ⟨_,b1⟩ | ⟨_,b1⟩
   ·intro z; rw [b1] at z; have h2:=hl b hb; rw [<- z] at h2; exact absurd (Nat.lt_of_lt_of_le h2 hC) (Nat.not_lt.mpr (Nat.le_succ _))
   ·exact (hf b hb).2.2.2.2.1 y c b1⟩
 bs:=I.bs
 bsz:=Nat.le_trans I.ok.bsz I.sz
 noex:=fun b o e hb=>by
  rcases (hf b hb).2.2.2.1 with z | z
  ·exact I.ok.noex b o e z
  ·have h1:=Heap.lt_size e;have h2:=I.ok.bsz;exact absurd (Nat.lt_of_lt_of_le (Nat.lt_of_lt_of_le h1 h2) z) (Nat.lt_irrefl _)
 exfs:=fun b hb z=>by
  rcases List.mem_cons.mp (I.stkSub b z) with q | q
  ·exact (hf b hb).2.1 q
  ·exact (hf b hb).2.2.1 q
 funs:=I.stack
 frf:=I.stkFree
theorem a1v.inv (S:a1v X.env.scope x x2 scope)(hx:x ∉ M)(hx2:x2 ∉ M)(hxx:x ≠ x2)(h0:(".0":Str) ∉ M)(hlen:M.length=X.N.length)(hM:∀ (j:Nat) y,M[j]? = some y->X.N[j]? = some y\/scope.names.lookup y=none)(I:Inv X pins σ H s){C:Addr}(hC:s.heap.objs.size <= C){fp:List Addr}(hf:∀ b ∈ fp,FpOk X pins H b)(hl:∀ b ∈ fp,b < s.heap.objs.size){h1:Heap}{t1:Nat}
  (old:∀ b o,s.heap.get? b=some o->h1.get? b=some o) {m:Str->Option Value} (ns:h1.Ns C m) (hcl:h1.IsCell (C + 1) none):Inv (X.compN M scope x x2 C s H fp) [] (none :: none :: σ) H { s with heap:=h1,toks:=t1 } where
 ok:=S.ok I hC hf hl
 os:=rfl
 bare:=I.bare
 base:=Un.kept old
 loc:=by
  refine ⟨m,ns,fun i y v e1 e2 hv=>?_⟩
  match i,e1,e2 with
  | 0,_,e2=>cases e2
  | 1,_,e2=>cases e2
  | j + 2,e1,e2=>
   have e1':M[j]? = some y:=by simpa [Cx.compN] using e1
   have e2':σ[j]? = some (some v):=by simpa using e2
   by_cases hy:(relabel scope X.env).names.lookup y=some .local
   ·exfalso;rw [a1p] at hy
    cases e:scope.names.lookup y with
    | none=>rw [e] at hy; cases hy
    | some k=>
     rw [e,Option.map_some] at hy
     have hk:k=.local:=by
      have hy':=Option.some.inj hy;unfold rlb at hy'
      split at hy'
      ·cases hy'
      ·exact hy'
     rcases S.loc _ (mem_of_lookup e) hk with z | z
     ·have z':y=x:=z;subst z'; exact hx (List.mem_of_getElem? e1')
     ·have z':y=(".0":Str):=z;subst z'; exact h0 (List.mem_of_getElem? e1')
   ·have hy2:y ≠ x2:=fun z=>hx2 (z ▸ List.mem_of_getElem? e1');obtain ⟨hm,hk⟩:=S.sees hy2 hy hv;obtain ⟨m0,_,hl0⟩:=I.loc;have hx0:Vis X.env.scope y:=.inr (S.free _ hm rfl)
    have e1':X.N[j]? = some y:=by
     rcases hM j y e1' with z | z
     ·exact z
     ·exfalso;unfold Vis at hv;have hv':(relabel scope X.env).names.lookup y=some .local\/(relabel scope X.env).names.lookup y=some .cell\/(relabel scope X.env).names.lookup y=some .free:=hv;rw [a1p,z] at hv'
      rcases hv' with q | q | q <;> cases q
    obtain ⟨u,r,l⟩:=hl0 j y v e1' e2' hx0;refine ⟨u,r,.inr ⟨hk,?_⟩⟩;obtain ⟨c,hc⟩:=a8s X.env scope.names [] (.inl hm);refine ⟨c,by show List.lookup y ((x2,C + 1) :: _) = _; rw [List.lookup_cons,a7u hy2]; exact hc,?_⟩;have hc0:=S.cells I.ok hc
    rcases l with ⟨k0,_⟩ | ⟨_,c0,e0,q0⟩
    ·rcases S.free _ hm rfl with z | z
     ·have k0':X.env.scope.names.lookup y=some .local:=k0;rw [z] at k0'; cases k0'
     ·have k0':X.env.scope.names.lookup y=some .local:=k0;rw [z] at k0'; cases k0'
    ·rw [hc0] at e0; cases e0;obtain ⟨o,ho,hd⟩:=q0;exact ⟨o,old _ _ ho,hd⟩
 cell:=fun y c e=>by
  rcases S.cases I.ok e with ⟨_,b1⟩ | ⟨_,b1⟩
  ·rw [b1]; exact ⟨_,hcl⟩
  ·obtain ⟨v,o,ho,hd⟩:=I.cell y c b1;exact ⟨v,o,old _ _ ho,hd⟩
 free:=I.hok.fresh hC
 freeC:=fun y c e=>by
  rcases S.cases I.ok e with ⟨_,b1⟩ | ⟨_,b1⟩
  ·rw [b1]; exact I.hok.fresh (Nat.le_succ_of_le hC)
  ·exact I.freeC y c b1
 pin:=fun p hp=>by cases hp
 hok:=I.hok.kept old
 len:=by simp [Cx.compN,I.len,hlen]
end
section
variable {X:Cx}{M:List Str}{scope:Scope}{x x2:Str}{px px2 ptg pos:Pos}{tk:Nat}{elt iter:Expr}{ifs:List Expr}{wi:TI}{tt:TT}{te:TE}
theorem comp_coreN {use:Option (Value->Sem Unit)}{QQ:Value->Shared->Prop}{Q:VK}{pins:List (Addr × Obj)}{σ:St}{H:Hp}{cpos:Pos}(hsc:X.env.scope=sc)(S:a1v sc x x2 scope)(hx:x ∉ M)(hx2:x2 ∉ M)(hxx:x ≠ x2)(h0:(".0":Str) ∉ M)(hN:M.Nodup)(hlen:M.length=X.N.length)(hM:∀ (j:Nat) y,M[j]? = some y->X.N[j]? = some y\/scope.names.lookup y=none)(hc:X.calm=true)(hi:PI X (.Tuple [.Name x px,.Name x2 px2] tk ptg) iter wi)
  (ht:∀ C s H ex,PIfs (X.compN M scope x x2 C s H ex) ifs tt) (he:∀ C s H ex,PE (X.compN M scope x x2 C s H ex) elt te) (I:Inv X pins σ H s) (h:tComp2 X.K wi tt te σ H Q)
  (fin:∀ (D C:Addr) (s4:Shared) (H4:Hp),C ≠ X.env.locals->(∀ y c,X.env.cells.lookup y=some c->c ≠ C)->(∀ p ∈ X.pn ++ pins,p.1 ≠ C)->X.s₀.heap.objs.size <= C->H4 C=none->(∃ m,s4.heap.Ns C m)->
   (∀ h',Heap.SameBut C s4.heap h'->Inv X pins σ H4 { s4 with heap:=h' })->Q (.ref D) H4->compPost (model X.prog X.w) X.A X.xe use QQ (.ref D) C (.ok .next) s4)
  (hs:∀ v,foldedSetIterable iter X.env v=pure v) :
  wpAny (model X.prog X.w) X.A (comprehension (.ListComp elt [⟨.Tuple [.Name x px,.Name x2 px2] tk ptg,iter,ifs,0⟩] scope pos) scope X.env cpos (newList []) false (eval iter X.env) use) QQ X.xe s:=by
 subst hsc;have hnames:=S.nam;refine wpAny_comprehension_free (use:=use) rfl hs (b6g (S.has I.ok)) S.kind hnames (thn (hi pins s σ H _ I h) fun v s1 h1=>thn h1 fun itv s2 h2=>?_);obtain ⟨it,fp,tn,J,H2,e,I2,T,st2,f2,W,⟨m0,w0⟩,a2h⟩:=h2;subst e;refine wpAny_newObj_type (b8j S.lay (fun h₁ hns₁ hcl₁ hsb₁=>?_));dsimp only at hns₁ hcl₁ hsb₁ ⊢;generalize hG:s2.heap.push { cls:=.type "list",dict:=none,data:=.seq ([]:List Value).toArray } = G at hns₁ hcl₁ hsb₁ ⊢;have hC:G.objs.size=s2.heap.objs.size + 1:=by rw [<- hG,Heap.size_push]
 have hDC:s2.heap.objs.size ≠ G.objs.size:=by omega
 have below:∀ b,b < s2.heap.objs.size->b ≠ G.objs.size/\b ≠ s2.heap.objs.size:=fun b hb=>⟨by omega,by omega⟩;have old:∀ b o,s2.heap.get? b=some o->h₁.get? b=some o:=fun b o e=>hsb₁ b o (hG ▸ Heap.get?_push_of_some _ e);have hacc:h₁.get? s2.heap.objs.size=some { cls:=.type "list",data:=.seq ([]:List Value).toArray }:=hsb₁ _ _ (hG ▸ Heap.get?_push_size _ rfl)
 have hlt:∀ b ∈ fp,b < s2.heap.objs.size:=fun b hb=>by
  obtain ⟨o,e,_⟩:=T.obj _ _ st2 b hb;exact Heap.lt_size e
 have ctop:∀ y c,((x2,G.objs.size + 1) :: b7r X.env scope.names []).lookup y=some c->c ≠ s2.heap.objs.size:=fun y c e=>by
  rcases S.cases I2.ok e with ⟨_,b1⟩ | ⟨_,b1⟩
  ·rw [b1]; omega
  ·obtain ⟨v,q⟩:=I2.cell y c b1;exact Nat.ne_of_lt q.lt
 have hCle:s2.heap.objs.size <= G.objs.size:=by omega
 have IY:∀ t1,Inv (X.compN M scope x x2 G.objs.size s2 H2 fp) [] (none :: none :: σ) H2 { s2 with heap:=h₁,toks:=t1 }:=fun t1=>S.inv hx hx2 hxx h0 hlen hM I2 hCle f2 hlt old hns₁ hcl₁
 have nost:∀ b,s2.heap.objs.size <= b->b ∉ frs X.stack:=fun b hb z=>by
  rcases List.mem_cons.mp (I2.stkSub b z) with q | q
  ·exact Nat.not_le.mpr I2.lt (q ▸ hb)
  ·exact I2.nofs hb q
 have hD:s2.heap.objs.size ∉ frs X.stack:=nost _ (Nat.le_refl _)
 have ptop:∀ {pl:List (Addr × Obj)} {H':Hp},(∀ b ∈ fp,H' b=none)->(∀ p ∈ pl,p.1 ∉ fp)->∀ b ∈ fp,FpOk (X.compN M scope x x2 G.objs.size s2 H2 fp) pl H' b:=fun {pl H'} hn hp b hb=>
  ⟨hn b hb,fun z=>(below b (hlt b hb)).1 z,fun z=>(S.ok (M:=M) I2 hCle f2 hlt).exfs b hb z,.inl hb,fun y c e=>(S.ok (M:=M) I2 hCle f2 hlt).exf b hb |>.2 y c e,fun p hp' z=>hp p hp' (z ▸ hb)⟩
 have Dfp:s2.heap.objs.size ∉ fp:=fun z=>Nat.lt_irrefl _ (hlt _ z)
 have loop:∀ t1,codeAny (model X.prog X.w) X.A (.compLoop (.ListComp elt [⟨.Tuple [.Name x px,.Name x2 px2] tk ptg,iter,ifs,0⟩] scope pos) 0 (.ref it) (.ref s2.heap.objs.size) (compEnvC scope ((x2,G.objs.size + 1) :: b7r X.env scope.names []) G.objs.size X.env))
   (compPost (model X.prog X.w) X.A X.xe use QQ (.ref s2.heap.objs.size) G.objs.size) { s2 with heap:=h₁,toks:=t1 }:=by
  intro t1
  refine b2c (fun n s'=>∃ i o o2 H' ys its k,Inv (X.compN M scope x x2 G.objs.size s2 H2 fp) [(s2.heap.objs.size,{ cls:=.type "list",data:=.seq its k })] (o :: o2 :: σ) H' s'/\tn i s'.heap/\(∀ b ∈ fp,H' b=none)/\a2t ys its.toList/\ys.length <= sizeLine/\W i n ys H')
   ?_ m0 ⟨0,none,none,H2,[],#[],0,?_,T.keep _ _ _ st2 fun b _ o e=>old b o e,fun b hb=>(f2 b hb).1,.nil,Nat.zero_le _,w0⟩
  ·rintro n s3 ⟨i,o,o2,H3,ys,its,k,I3,st3,fr3,vs3,z3,w3⟩
   have pD:∀ p ∈ [(s2.heap.objs.size,({ cls:=.type "list",data:=.seq its k }:Obj))],p.1 ∉ fp:=fun p hp=>by
    have e:p=_:=List.mem_singleton.mp hp;subst e; exact Dfp
   rcases a2h i n ys H3 w3 with ⟨stop,qn⟩ | ⟨go,hz,N,hN',step⟩
   ·refine wpAny_mono (T.done (X.compN M scope x x2 G.objs.size s2 H2 fp) rfl rfl rfl hc i _ s3 (o :: o2 :: σ) H3 (fun _ _=>False) I3 (ptop fr3 pD) st3 stop) (fun r s4 ⟨hr,I4⟩=>?_) fun _ _ f=>f;subst hr;obtain ⟨m4,hn4,_⟩:=I4.loc;obtain ⟨eD,nD,_⟩:=I4.pin _ (List.mem_singleton.mpr rfl);have nC:H3 G.objs.size=none:=I4.free;refine fin s2.heap.objs.size G.objs.size s4 (upd H3 s2.heap.objs.size (.lst ys)) (fun z=>Nat.not_le.mpr I2.lt (z ▸ hCle)) (fun y c e z=>?_) (fun p hp z=>?_) (Nat.le_trans I2.sz hCle) (by rw [a0m (Ne.symm hDC)]; exact nC) ⟨m4,hn4⟩ (fun h' hs'=>?_) (qn _ nD)
    ·obtain ⟨v,q⟩:=I2.cell y c e;exact Nat.not_le.mpr q.lt (z ▸ hCle)
    ·exact Nat.not_le.mpr (Heap.lt_size (I2.pin p hp).1) (z ▸ hCle)
    have eD':h'.get? s2.heap.objs.size=some { cls:=.type "list",data:=.seq its k }:=hs'.extBut _ _ hDC eD;have stp:∀ b o,s2.heap.get? b=some o->b ≠ G.objs.size/\b ≠ s2.heap.objs.size:=fun b o e=>below b (Heap.lt_size e)
    have un:Un (frs X.stack) fp H2 (upd H3 s2.heap.objs.size (.lst ys)) s2.heap h':=by
     have B:=I4.base;refine ⟨fun b o e n1 n2 n3=>hs'.extBut _ _ (stp b o e).1 (B.keep b o e n1 n2 n3),fun b o e n1 n2 n3=>?_,fun b o e n1 n3=>?_,fun b o e n3=>?_,fun b xs e=>?_,fun b o u e=>?_,fun b ps e=>?_⟩
     ·obtain ⟨sl,q⟩:=B.slot b o e n1 n2 n3;exact ⟨sl,hs'.extBut _ _ (stp b o e).1 q⟩
     ·rw [a0m (stp b o e).2]; exact B.free b o e n1 n3
     ·obtain ⟨o',q⟩:=B.there b o e n3;exact ⟨o',hs'.extBut _ _ (stp b o e).1 q⟩
     ·have q:=B.tups b xs e;rw [a0m (a0h q nD)]; exact q
     ·have q:=B.frzs b o u e;rw [a0m (a0h q nD)]; exact q
     ·obtain ⟨more,q⟩:=B.tbls b ps e;exact ⟨more,by rw [a0m (a0h q nD)]; exact q⟩
    have hok:HOk X.prog X.w (upd H3 s2.heap.objs.size (.lst ys)) h':=fun b u e=>by
     by_cases hb:b=s2.heap.objs.size
     ·subst hb;rw [a0c] at e;cases e;exact ⟨z3,its.toList,k,vs3,by simpa using eD'⟩
     ·rw [a0m hb] at e;refine (I4.hok b u e).stay (fun c v hc' q=>hs'.extBut _ _ (fun z=>?_) q) (fun c q=>by rw [a0m (a0h q nD)]; exact q) fun c xs q=>by rw [a0m (a0h q nD)]; exact q
      rcases hc' with r | r
      ·rw [r] at z; rw [z,nC] at e; cases e
      ·rw [z,nC] at r; cases r
    refine I2.call' (s':={ s4 with heap:=h' }) I4.os un hok I4.bare (fun b hb=>?_);obtain ⟨f0,f1,f2',f3,f4,f5⟩:=f2 b hb;exact ⟨f3,f1,f4,f5⟩
   ·refine wpAny_mono (T.item (X.compN M scope x x2 G.objs.size s2 H2 fp) rfl rfl rfl hc i _ s3 (o :: o2 :: σ) H3 (fun _ _=>False) I3 (ptop fr3 pD) st3 go) (fun r s4 ⟨u,hr,h4⟩=>?_) fun _ _ f=>f;subst hr;refine wpAny_mono h4 (fun _ s5 ⟨v5,H5,I5,r5,y5,st5,fr5⟩=>?_) fun _ _ f=>f;have I5':=I5.pinned (ptop fr5 pD) (T.obj _ _ st5);have hnd:(X.compN M scope x x2 G.objs.size s2 H2 fp).N.Nodup:=List.nodup_cons.mpr ⟨fun z=>(List.mem_cons.mp z).elim hxx hx,List.nodup_cons.mpr ⟨hx2,hN⟩⟩;have hloc:(relabel scope X.env).names.lookup x=some .local:=lookup_relabel_local S.own;have hloc2:(relabel scope X.env).names.lookup x2=some .cell:=S.rl2;obtain ⟨a5,v5a,v5b,e5,sq5,q5⟩:=step v5 H5 y5;subst e5;refine wpAny_mono (b1z (X:=X.compN M scope x x2 G.objs.size s2 H2 fp) (pos:=ptg) (k:=tk) hc (a1m (a1c (X:=X.compN M scope x x2 G.objs.size s2 H2 fp) (i:=0) (pos:=px) hnd rfl (.inl hloc) (.inr hloc)) (a1m (a1c (X:=X.compN M scope x x2 G.objs.size s2 H2 fp) (i:=1) (pos:=px2) hnd rfl (.inr hloc2) (.inl (beq_self_eq_true x2))) a8e)) rfl rfl _ s5 (o :: o2 :: σ) H5 (.ref a5) u (fun σ6 H6=>σ6=some v5a :: some v5b :: σ/\H6=H5) I5' r5 ⟨a5,[v5a,v5b],rfl,sq5,rfl,v5a,[v5b],rfl,v5b,[],rfl,rfl,rfl,rfl⟩) (fun _ s6 ⟨σ6,H6,I6,e6,e6'⟩=>?_) fun _ _ f=>f;subst e6 e6'
    have later:∀ {σ7:St} {H7:Hp} {s7:Shared},Inv (X.compN M scope x x2 G.objs.size s2 H2 fp) ([(s2.heap.objs.size,{ cls:=.type "list",data:=.seq its k })] ++ b5t fp s5.heap) σ7 H7 s7->tn (i + 1) s7.heap/\(∀ b ∈ fp,H7 b=none):=fun {σ7 H7 s7} I7=>
     ⟨T.keep _ _ _ st5 fun b hb o e=>(I7.pin (b,o) (List.mem_append_right _ (List.mem_append_right _ (a4x hb e)))).1,fun b hb=>by
      obtain ⟨o,e,d⟩:=T.obj _ _ st5 b hb
      exact (I7.pin (b,o) (List.mem_append_right _ (List.mem_append_right _ (a4x hb e)))).2.1⟩
    refine wpAny_mono (ht _ _ _ _ _ s6 (some v5a :: some v5b :: σ) H6 _ I6 q5) (fun ok s7 ⟨H7,I7,q7⟩=>?_) fun _ _ f=>f
    cases ok with
    | false=>
     obtain ⟨m',hm,w7⟩:=hN' _ _ q7;exact ⟨m',hm,i + 1,some v5a,some v5b,H7,ys,its,k,I7.unpinned,(later I7).1,(later I7).2,vs3,z3,w7⟩
    | true=>
     refine wpAny_mono (he _ _ _ _ _ s7 (some v5a :: some v5b :: σ) H7 _ I7 q7) (fun uy s8 ⟨y8,H8,I8,r8,q8⟩=>?_) fun _ _ f=>f;obtain ⟨m',hm,w8⟩:=hN' _ _ q8;obtain ⟨eD,nD,_⟩:=I8.pin (s2.heap.objs.size,{ cls:=.type "list",data:=.seq its k }) (List.mem_append_right _ (List.mem_append_left _ (List.mem_singleton.mpr rfl)))
     have hsz:its.size <= sizeLine:=by
      have:=vs3.length;have e2:its.toList.length=its.size:=by simp
      omega
     refine wpAny_list_append_plain (hsz:=hsz) ⟨k,eD⟩ fun h9 pl9 sb9=>?_;obtain ⟨k9,e9⟩:=pl9;obtain ⟨st8,fr8⟩:=later I8;have I8':Inv (X.compN M scope x x2 G.objs.size s2 H2 fp) [] (some v5a :: some v5b :: σ) H8 s8:=I8.pins_of fun p hp=>nomatch hp
     have I9:Inv (X.compN M scope x x2 G.objs.size s2 H2 fp) [] (some v5a :: some v5b :: σ) H8 { s8 with heap:=h9 }:=
      I8'.turned (t':=s8.toks) (fun b o hb e=>sb9.extBut b o hb e) nD hDC (.inr (Nat.le_refl _)) (fun y c e z=>ctop y c e z) fun p hp=>nomatch hp
     refine ⟨m',hm,i + 1,some v5a,some v5b,H8,ys ++ [y8],its.push uy,k9,I9.pins_of fun p hp=>?_,T.keep _ _ _ st8 fun b hb o e=>sb9.extBut b o (fun z=>Dfp (z ▸ hb)) e,fr8,?_,?_,w8⟩
     ·have e:p=_:=List.mem_singleton.mp hp;subst e;exact ⟨e9,nD,hDC,hD,fun v z=>by cases z⟩
     ·rw [Array.toList_push];exact vs3.append (.cons r8 .nil)
     ·rw [List.length_append,List.length_singleton]; omega
  ·refine (IY t1).pins_of fun p hp=>?_;have e:p=_:=List.mem_singleton.mp hp;subst e;exact ⟨hacc,I2.hok.fresh (Nat.le_refl _),hDC,hD,fun v z=>by cases z⟩
 exact codeAny_compStart_list (loop _) (T.self _ 0 _ _ _ (T.keep _ _ _ st2 fun b _ o e=>old b o e) (loop _))
theorem pe_compN (hsc:X.env.scope=sc)(S:a1v sc x x2 scope)(hx:x ∉ X.N)(hx2:x2 ∉ X.N)(hxx:x ≠ x2)(h0:(".0":Str) ∉ X.N)(hN:X.N.Nodup)(hc:X.calm=true)(hi:PI X (.Tuple [.Name x px,.Name x2 px2] tk ptg) iter wi)
  (ht:∀ C s H ex,PIfs (X.compN X.N scope x x2 C s H ex) ifs tt) (he:∀ C s H ex,PE (X.compN X.N scope x x2 C s H ex) elt te) (hs:∀ v,foldedSetIterable iter X.env v=pure v:=by intro _; rfl) :
  PE X (.ListComp elt [⟨.Tuple [.Name x px,.Name x2 px2] tk ptg,iter,ifs,0⟩] scope pos) (tComp2 X.K wi tt te):=by
 intro pins s σ H Q I h;rw [eval_ListComp];exact comp_coreN (use:=none) (M:=X.N) hsc S hx hx2 hxx h0 hN rfl (fun _ _ e=>.inl e) hc hi ht he I h (fun D C s4 H4 _ _ _ _ _ hn inv q=>let ⟨m,hn⟩:=hn; ⟨m,hn,fun h' hs'=>⟨.ref D,H4,inv h' hs',rfl,q⟩⟩) hs
end
end L2
namespace Tw
open PySem L2
def scopeIn:Nat->Expr->Scope
 | 0,_=>{ kind:=.function,names:=[],isGenerator:=false,isCoroutine:=false }
 | k + 1,e=>match e with
  | .ListComp _ _ sc _=>sc
  | .Call _ (a :: _) _ _=>scopeIn k a
  | _=>{ kind:=.function,names:=[],isGenerator:=false,isCoroutine:=false }
def bodyScope (s:Stmt):Scope:=match s with
 | .FunctionDef _ _ (.Return (some e) _ :: _) _ _ _ _ _ _ _=>scopeIn 3 e
 | _=>{ kind:=.function,names:=[],isGenerator:=false,isCoroutine:=false }
def relS (scope sc:Scope):Scope:={ scope with names:=scope.names.map fun (n,k)=>if (k == .free && sc.kind == .function && sc.names.lookup n == some .cell) = true then (n,.cell) else (n,k) }
end Tw
namespace L2
open PySem PySem.Spec PyProof.Rows
variable {X:Cx}{K:PySem.W.Frag}
theorem sl_listK (h:X.K=K):SlR X (rSlL K):=h ▸ b3e
theorem pi_listK {tg l:Expr}{tl:TE}(h:X.K=K)(hl:PE X l tl):PI X tg l (iList K tl):=h ▸ a3s hl
theorem call_allBK (h:X.K=K)(hc:X.calm=true):b1s X (.builtin "all") (rAll K):=h ▸ b0r hc
section
variable {X:Cx}{scope:Scope}{x:Str}{px pos:Pos}{elt iter:Expr}{ifs:List Expr}{wi:TI}{tt:TT}{te:TE}
end
theorem ps_tryQ {st:Stmt}{t:XK->TS}{h₀:ExceptHandler}{hs:List ExceptHandler}{pos:Pos}(hb:PSx X st t):PS X (.Try [st] (h₀ :: hs) [] [] pos) (t fun _ _ _=>False):=by
 intro pins s σ H D I h;refine wpAny_Try_except (wpAny_execs_cons (wpAny_mono (hb pins s σ H D _ I h) (fun f s1 q=>?_) fun e s1 q=>?_))
 ·cases f with
  | next=>exact wpAny_execs_nil (wpAny_execs_nil q)
  | ret v=>exact q
  | brk=>exact q
  | cont=>exact q
 ·obtain ⟨H1,s2,I2,ea,cls,H',B,rfl,F⟩:=q;exact F.want.elim
end L2
namespace Tw
open PySem L2
variable {l:List Nat}{a:Nat}
def bn (b:Bool):Int:=if b=true then 1 else 0
theorem Spn.zero (l:List Nat):Spn l 0:=⟨0,Nat.two_pow_pos _,a6h l⟩
theorem Spn.xor {b:Nat}(x:Spn l a)(y:Spn l b):Spn l (a ^^^ b):=by
 obtain ⟨m,hm,rfl⟩:=x;obtain ⟨k,hk,rfl⟩:=y;exact ⟨m ^^^ k,Nat.xor_lt_two_pow hm hk,a5q _ _ _⟩
theorem Spn.mem (h:a ∈ l):Spn l a:=by
 obtain ⟨k,hk⟩:=List.getElem?_of_mem h;exact ⟨2 ^ k,Nat.pow_lt_pow_right (by decide) (List.getElem?_eq_some_iff.1 hk).1,b7u hk⟩
theorem xor_back (v b:Nat):v ^^^ b ^^^ b=v:=by rw [Nat.xor_assoc,Nat.xor_self,Nat.xor_zero]
theorem Spn.sub {l':List Nat}:∀ {l:List Nat} {u:Nat},(∀ a ∈ l,Spn l' a)->Spn l u->Spn l' u
 | [],u,_,h=>by rw [(sp_nil u).1 h]; exact Spn.zero _
 | b :: l,u,hl,h=>by
  have ih:=fun {v}=>Spn.sub (l':=l') (l:=l) (u:=v) fun a ha=>hl a (List.mem_cons_of_mem _ ha)
  rcases (a3m _ _ _).1 h with h | h
  ·exact ih h
  ·have:=(ih h).xor (hl b List.mem_cons_self);rw [xor_back] at this;exact this
theorem pigeon:∀ (N M:Nat) (f:Nat->Nat),(∀ i,i < N->f i < M)->(∀ i j,i < N->j < N->f i=f j->i=j)->N <= M
 | 0,_,_,_,_=>Nat.zero_le _
 | N + 1,M,f,h1,h2=>by
  have hy:=h1 N (Nat.lt_succ_self N);have ih:=pigeon N (M - 1) (fun i=>if f i=M - 1 then f N else f i) (fun i hi=>?_) (fun i j hi hj e=>?_)
  ·omega
  ·have a1:=h1 i (by omega)
   by_cases c:f i=M - 1
   ·have:f N ≠ f i:=fun z=>by have:=h2 N i (by omega) (by omega) z; omega
    simp only [if_pos c];omega
   ·simp only [if_neg c];omega
  ·by_cases c:f i=M - 1 <;> by_cases d:f j=M - 1 <;> simp only [if_pos,if_neg,c,d,if_true,if_false] at e
   ·exact h2 i j (by omega) (by omega) (c.trans d.symm)
   ·have:=h2 N j (by omega) (by omega) e; omega
   ·have:=h2 i N (by omega) (by omega) e; omega
   ·exact h2 i j (by omega) (by omega) e
theorem sp_many {n:Nat}(f:Nat->Nat)(inj:∀ a b,a < 2 ^ n->b < 2 ^ n->f a=f b->a=b)(h:∀ v,v < 2 ^ n->Spn l (f v)):n <= l.length:=by
 have hc:∀ v,∃ m,v < 2 ^ n->m < 2 ^ l.length/\a0u l m=f v:=fun v=>by
  by_cases c:v < 2 ^ n
  ·obtain ⟨m,h1,h2⟩:=h v c;exact ⟨m,fun _=>⟨h1,h2⟩⟩
  ·exact ⟨0,fun z=>absurd z c⟩
 obtain ⟨g,hg⟩:=Classical.axiomOfChoice hc;have:=pigeon (2 ^ n) (2 ^ l.length) g (fun i hi=>(hg i hi).1) (fun i j hi hj e=>inj i j hi hj (by rw [<- (hg i hi).2,<- (hg j hj).2,e]));exact (Nat.pow_le_pow_iff_right (by decide)).1 this
end Tw
namespace Tw
open PySem L2
variable {ds:List Dd}{r:Row}
def sn (n:Nat)(r:Row):Nat:=r.x ^^^ r.z * 2 ^ n
theorem sn_lt {n:Nat}(ok:r.Ok n):sn n r < 2 ^ (2 * n):=by
 refine Nat.xor_lt_two_pow (Nat.lt_of_lt_of_le ok.x (Nat.pow_le_pow_right (by decide) (by omega))) ?_;rw [show 2 * n=n + n by omega,Nat.pow_add];exact Nat.mul_lt_mul_of_pos_right ok.z (Nat.two_pow_pos n)
def Wr (ds:List Dd)(n:Nat)(r:Row):Prop:=∃ v,v < 2 ^ n/\r=im ds v
theorem Wr.ok {n:Nat}(h:∀ d ∈ ds,d.Ok n)(a:Wr ds n r):r.Ok n:=by
 obtain ⟨v,hv,rfl⟩:=a;exact b5k h hv
theorem Wr.com {n:Nat}(h:∀ d ∈ ds,d.Ok n){s:Row}(a:Wr ds n r)(b:Wr ds n s):a4z r s=false:=by
 obtain ⟨v,hv,rfl⟩:=a;obtain ⟨w,hw,rfl⟩:=b;exact symp_im h v w
theorem snim_inj {n a b:Nat}(h:∀ d ∈ ds,d.Ok n)(ha:a < 2 ^ n)(hb:b < 2 ^ n)(e:sn n (im ds a) = sn n (im ds b)):a=b:=by
 obtain ⟨e1,e2⟩:=sn_inj (b5k h ha).x (b5k h hb).x e;have h2:=(acts_let (ds:=undo ds) e1 e2).2;unfold im at h2;rw [a7r h,a7r h] at h2;exact h2
structure Wl (ds:List Dd)(n:Nat)(rs:List Row):Prop where
 len:rs.length=n
 wh:∀ r ∈ rs,Wr ds n r
 sp:∀ v,v < 2 ^ n->Spn (rs.map (sn n)) (sn n (im ds v))
theorem Wl.plain {ds:List Dd}{n:Nat}(hn:n <= 40)(h:∀ d ∈ ds,d.Ok n):Wl ds n ((List.range n).map fun k=>im ds (2 ^ k)):=by
 have p:=Mx.plain hn h (Nat.le_refl n);have p40:=Nat.pow_le_pow_right (show 0 < 2 by decide) hn;refine ⟨p.len,fun r hr=>?_,fun v hv=>?_⟩
 ·obtain ⟨k,hk,rfl⟩:=List.mem_map.1 hr;exact ⟨2 ^ k,Nat.pow_lt_pow_right (by decide) (List.mem_range.1 hk),rfl⟩
 ·obtain ⟨m,hm,e⟩:=(p.sp _).2 ⟨v,hv,rfl⟩;have ok:=b5k h hv;have e2:=(lsel_sn (w:=40) (fun s hs=>Nat.lt_of_lt_of_le (p.ok s hs).x p40) (Nat.lt_of_lt_of_le ok.x p40) m).1 e;refine ⟨m,by rw [List.length_map] at hm ⊢; exact hm,(lsel_sn (w:=n) (fun s hs=>(p.ok s hs).x) ok.x m).2 e2⟩
def stp (n s:Nat)(g r:Row):Row:=if (sn n r).testBit s=true then tm r g else r
end Tw
namespace Tw
open PySem L2
variable {ss:List Sm}
def Dep (us:List Nat):Prop:=∃ k u,us[k]? = some u/\Spn (us.eraseIdx k) u
theorem ss_zero:∀ {ss:List Sm} {m:Nat},(∀ s ∈ ss,s.t.testBit s.j=true)->ss.Pairwise (fun a b=>b.t.testBit a.j=false)->m < 2 ^ ss.length->a0u (ss.map Sm.t) m=0->m=0
 | [],m,_,_,hm,_=>by
  have:(2:Nat) ^ ([]:List Sm).length=1:=rfl;omega
 | u :: r,m,h1,h2,hm,e=>by
  obtain ⟨o1,o2⟩:=List.pairwise_cons.1 h2;have e':(if m.testBit 0=true then u.t else 0) ^^^ a0u (r.map Sm.t) (m / 2) = 0:=e
  have hy:(a0u (r.map Sm.t) (m / 2)).testBit u.j=false:=a5g _ fun v hv=>by
   obtain ⟨t,ht,rfl⟩:=List.mem_map.1 hv;exact o1 t ht
  by_cases hb:m.testBit 0=true
  ·rw [if_pos hb] at e';have:=congrArg (fun v=>v.testBit u.j) e';simp only [Nat.testBit_xor,hy,h1 u List.mem_cons_self,Nat.zero_testBit] at this;cases this
  ·rw [if_neg hb,Nat.zero_xor] at e'
   have hm':m / 2 < 2 ^ r.length:=by
    rw [List.length_cons,Nat.pow_succ] at hm;omega
   have h0:=ss_zero (fun t ht=>h1 t (List.mem_cons_of_mem _ ht)) o2 hm' e'
   have hb':m % 2=0:=by
    rw [Nat.testBit_zero] at hb;simp at hb;omega
   omega
theorem ss_inj (h1:∀ s ∈ ss,s.t.testBit s.j=true)(h2:ss.Pairwise (fun a b=>b.t.testBit a.j=false)){a b:Nat}(ha:a < 2 ^ ss.length)(hb:b < 2 ^ ss.length)(e:a0u (ss.map Sm.t) a=a0u (ss.map Sm.t) b):a=b:=by
 have h:=ss_zero h1 h2 (Nat.xor_lt_two_pow ha hb) (by rw [a5q,e,Nat.xor_self]);have:=congrArg (· ^^^ b) h
 simp only [Nat.xor_assoc,Nat.xor_self,Nat.xor_zero,Nat.zero_xor] at this;exact this
theorem xsel_spn {vs:List Nat}{l:List Nat}(h:∀ v ∈ vs,Spn l v):∀ m,Spn l (a0u vs m):=by
 induction vs with
 | nil=>intro m; exact Spn.zero l
 | cons v vs ih=>
  intro m;have h2:=ih (fun u hu=>h u (List.mem_cons_of_mem _ hu)) (m / 2);show Spn l ((if m.testBit 0=true then v else 0) ^^^ a0u vs (m / 2));refine Spn.xor ?_ h2
  split
  ·exact h v List.mem_cons_self
  ·exact Spn.zero l
theorem SpOk.dep {us:List Nat}(ok:SpOk us ss)(e:ss.length=us.length):¬ Dep us:=by
 rintro ⟨k,u,hk,hu⟩;have hkl:=(List.getElem?_eq_some_iff.1 hk).1
 have hall:∀ v ∈ us,Spn (us.eraseIdx k) v:=fun v hv=>by
  obtain ⟨i,hi⟩:=List.getElem?_of_mem hv
  by_cases c:i=k
  ·subst c;rw [hk] at hi;cases hi;exact hu
  ·exact Spn.mem (List.mem_eraseIdx_iff_getElem?.2 ⟨i,c,hi⟩)
 have:=sp_many (l:=us.eraseIdx k) (n:=ss.length) (a0u (ss.map Sm.t)) (fun a b ha hb e=>ss_inj ok.bit ok.ord ha hb e) (fun v _=>xsel_spn (fun t ht=>by
  obtain ⟨s,hs,rfl⟩:=List.mem_map.1 ht;rw [ok.tot s hs]
  exact xsel_spn hall _) v)
 rw [List.length_eraseIdx,if_pos hkl] at this;omega
def Gd (n:Nat)(rs:List Row):Prop:=rs.length=n/\(∀ r ∈ rs,∀ s ∈ rs,a4z r s=false)/\¬ Dep (rs.map (sn n))
def Whl (n:Nat)(rs:List Row):Prop:=∃ ds:List Dd,(∀ d ∈ ds,d.Ok n)/\Wl ds n rs
theorem symp_self (r:Row):a4z r r=false:=by
 unfold a4z;rw [Nat.and_comm r.z r.x];exact Bool.xor_self _
end Tw
namespace L2
open PySem PySem.Spec PyProof.Rows
section
variable {prog:Program}{w:World}{A:Around}{E:Value->Shared->Prop}{s:Shared}{da ia:Addr}{es:Array DictEntry}{ep i:Nat}
end
section
variable {X:Cx}
end
section
variable {K:PySem.W.Frag}{H:Hp}{Q:VK}{a:Addr}{kvs:List (List Key × V)}{σ:St}{tk tv:TE}
end
end L2
namespace Tw
open PySem L2
theorem b8n:∀ (vs:List Nat) (m:Nat),a0u vs (m % 2 ^ vs.length) = a0u vs m
 | [],_=>rfl
 | v :: vs,m=>by
  have h1:(m % 2 ^ (vs.length + 1)).testBit 0=m.testBit 0:=by rw [Nat.testBit_mod_two_pow]; simp
  have h2:m % 2 ^ (vs.length + 1) / 2=(m / 2) % 2 ^ vs.length:=by rw [Nat.pow_succ,Nat.mul_comm,Nat.mod_mul_right_div_self]
  show (if (m % 2 ^ (vs.length + 1)).testBit 0=true then v else 0) ^^^ a0u vs (m % 2 ^ (vs.length + 1) / 2) = (if m.testBit 0=true then v else 0) ^^^ a0u vs (m / 2);rw [h1,h2,b8n vs]
end Tw
namespace L2
open PySem
section
variable {X:Cx}
end
end L2
namespace Tw
open PySem L2
variable {N a b d:Nat}{r:Row}
theorem a0y (f a b:Nat):pb (f &&& (a ^^^ b)) = (pb (f &&& a) ^^ pb (f &&& b)):=by
 rw [Nat.and_xor_distrib_left,a8j]
theorem b6a (j b:Nat):pb (2 ^ j &&& b) = b.testBit j:=by
 rw [Nat.and_comm,b1k,b5v]
theorem bit_of (h:b ≠ 0)(hb:b < 2 ^ N):∃ j,j < N/\b.testBit j=true:=by
 obtain ⟨j,hj⟩:=Nat.exists_testBit_of_ne_zero h;refine ⟨j,?_,hj⟩
 rcases Nat.lt_or_ge j N with h1 | h1
 ·exact h1
 ·rw [Nat.testBit_lt_two_pow (Nat.lt_of_lt_of_le hb (Nat.pow_le_pow_right (by decide) h1))] at hj;cases hj
theorem dual {N:Nat}:∀ (l:List Nat) (b:Nat),(∀ u ∈ l,u < 2 ^ N)->b < 2 ^ N->¬ Spn l b->∃ d,d < 2 ^ N/\(∀ u ∈ l,pb (d &&& u) = false)/\pb (d &&& b) = true
 | [],b,_,hb,h=>by
  obtain ⟨j,h1,h2⟩:=bit_of (N:=N) (fun z=>h ((sp_nil b).2 z)) hb;exact ⟨2 ^ j,Nat.pow_lt_pow_right (by decide) h1,fun _ z=>(nomatch z),by rw [b6a]; exact h2⟩
 | c :: l,b,hl,hb,h=>by
  rw [a3m] at h;have hc:=hl c List.mem_cons_self;have hl':∀ u ∈ l,u < 2 ^ N:=fun u hu=>hl u (List.mem_cons_of_mem _ hu);obtain ⟨d1,a1,a2,a3⟩:=dual l b hl' hb fun z=>h (.inl z);obtain ⟨d2,b1,b2,b3⟩:=dual l (b ^^^ c) hl' (Nat.xor_lt_two_pow hb hc) fun z=>h (.inr z);rw [a0y] at b3
  have mk:∀ d,d < 2 ^ N->(∀ u ∈ l,pb (d &&& u) = false)->pb (d &&& c) = false->pb (d &&& b) = true->∃ d,d < 2 ^ N/\(∀ u ∈ c :: l,pb (d &&& u) = false)/\pb (d &&& b) = true:=fun d e1 e2 e3 e4=>⟨d,e1,fun u hu=>by
   rcases List.mem_cons.1 hu with rfl | hu
   ·exact e3
   ·exact e2 u hu,e4⟩
  cases hc1:pb (d1 &&& c) with
  | false=>exact mk d1 a1 a2 hc1 a3
  | true=>
   cases hc2:pb (d2 &&& c) with
   | false=>
    rw [hc2] at b3;exact mk d2 b1 b2 hc2 (by simpa using b3)
   | true=>
    rw [hc2] at b3;have hb2:pb (d2 &&& b) = false:=by simpa using b3
    refine mk (d1 ^^^ d2) (Nat.xor_lt_two_pow a1 b1) (fun u hu=>?_) ?_ ?_
    ·rw [Nat.and_comm,a0y,Nat.and_comm u,Nat.and_comm u,a2 u hu,b2 u hu]; rfl
    ·rw [Nat.and_comm,a0y,Nat.and_comm c,Nat.and_comm c,hc1,hc2]; rfl
    ·rw [Nat.and_comm,a0y,Nat.and_comm b,Nat.and_comm b,a3,hb2]; rfl
theorem duals {N:Nat}:∀ (us:List Nat),Ind us->(∀ u ∈ us,u < 2 ^ N)->∃ D:List Nat,D.length=us.length/\(∀ d ∈ D,d < 2 ^ N)/\∀ {i j d u:Nat},D[i]? = some d->us[j]? = some u->pb (d &&& u) = decide (i=j)
 | [],_,_=>⟨[],rfl,fun _ z=>(nomatch z),fun {i j d u} z _=>by simp at z⟩
 | b :: l,hi,hb=>by
  obtain ⟨h1,h2⟩:¬ Spn l b/\Ind l:=hi;have hl:∀ u ∈ l,u < 2 ^ N:=fun u hu=>hb u (List.mem_cons_of_mem _ hu);obtain ⟨D,e1,e2,e3⟩:=duals l h2 hl;obtain ⟨d0,f1,f2,f3⟩:=dual l b hl (hb b List.mem_cons_self) h1;refine ⟨d0 :: D.map (fun d=>if pb (d &&& b) = true then d ^^^ d0 else d),by simp [e1],fun d hd=>?_,fun {i j d u} hd hu=>?_⟩
  ·rcases List.mem_cons.1 hd with rfl | hd
   ·exact f1
   ·obtain ⟨d',hd',rfl⟩:=List.mem_map.1 hd
    split
    ·exact Nat.xor_lt_two_pow (e2 d' hd') f1
    ·exact e2 d' hd'
  ·cases i with
   | zero=>
    obtain rfl:d0=d:=Option.some.inj hd
    cases j with
    | zero=>
     obtain rfl:b=u:=Option.some.inj hu;rw [f3]; rfl
    | succ j=>
     rw [f2 u (List.mem_of_getElem? (show l[j]? = some u from hu))];exact (decide_eq_false (by omega)).symm
   | succ i=>
    have hd':(D.map (fun d=>if pb (d &&& b) = true then d ^^^ d0 else d))[i]? = some d:=hd;rw [List.getElem?_map] at hd'
    cases eD:D[i]? with
    | none=>rw [eD] at hd'; cases hd'
    | some d'=>
     rw [eD] at hd';have hd2:(if pb (d' &&& b) = true then d' ^^^ d0 else d') = d:=Option.some.inj hd'
     cases j with
     | zero=>
      obtain rfl:b=u:=Option.some.inj hu;rw [decide_eq_false (by omega)]
      by_cases c:pb (d' &&& b) = true
      ·rw [if_pos c] at hd2;rw [<- hd2,Nat.and_comm,a0y,Nat.and_comm b,Nat.and_comm b,c,f3]; rfl
      ·rw [if_neg c] at hd2;rw [<- hd2]
       simpa using c
     | succ j=>
      have hu':l[j]? = some u:=hu;have k1:=e3 eD hu'
      have k2:decide (i + 1=j + 1) = decide (i=j):=by
       by_cases c:i=j
       ·rw [c,decide_eq_true rfl,decide_eq_true rfl]
       ·rw [decide_eq_false c,decide_eq_false (by omega)]
      rw [k2,<- k1]
      by_cases c:pb (d' &&& b) = true
      ·rw [if_pos c] at hd2;rw [<- hd2,Nat.and_comm,a0y,Nat.and_comm u,Nat.and_comm u,f2 u (List.mem_of_getElem? hu')];simp
      ·rw [if_neg c] at hd2;rw [<- hd2]
theorem b1f {f:Nat}:∀ {l:List Nat} (m:Nat),(∀ u ∈ l,pb (f &&& u) = false)->pb (f &&& a0u l m) = false
 | [],_,_=>by rw [show a0u [] _=0 from rfl,Nat.and_zero]; exact a4j
 | v :: l,m,h=>by
  show pb (f &&& ((if m.testBit 0=true then v else 0) ^^^ a0u l (m / 2))) = false;rw [a0y,b1f (m / 2) fun u hu=>h u (List.mem_cons_of_mem _ hu)]
  split
  ·rw [h v List.mem_cons_self]; rfl
  ·rw [Nat.and_zero,a4j]; rfl
theorem pop_shl (c:Nat):∀ n,pop (c * 2 ^ n) = pop c
 | 0=>by rw [Nat.pow_zero,Nat.mul_one]
 | n + 1=>by
  rw [a8q,show c * 2 ^ (n + 1) = 2 * (c * 2 ^ n) by rw [Nat.pow_succ]; rw [<- Nat.mul_assoc,Nat.mul_comm]];rw [Nat.mul_mod_right,Nat.mul_div_cancel_left _ (by decide),Nat.zero_add,pop_shl c n]
theorem pb_shift (a b n:Nat):pb (a * 2 ^ n &&& b * 2 ^ n) = pb (a &&& b):=by
 have e:a * 2 ^ n &&& b * 2 ^ n=(a &&& b) * 2 ^ n:=by
  rw [<- Nat.shiftLeft_eq,<- Nat.shiftLeft_eq,<- Nat.shiftLeft_eq];apply Nat.eq_of_testBit_eq;intro i;rw [Nat.testBit_and,Nat.testBit_shiftLeft,Nat.testBit_shiftLeft,Nat.testBit_shiftLeft,Nat.testBit_and];cases decide (n <= i) <;> simp
 rw [e];unfold pb;rw [pop_shl]
theorem b2v {n:Nat}(h:a < 2 ^ n):a &&& b * 2 ^ n=0:=by
 apply Nat.eq_of_testBit_eq;intro i;rw [Nat.testBit_and,<- Nat.shiftLeft_eq,Nat.testBit_shiftLeft,Nat.zero_testBit]
 rcases Nat.lt_or_ge i n with hi | hi
 ·simp [Nat.not_le.2 hi]
 ·rw [Nat.testBit_lt_two_pow (Nat.lt_of_lt_of_le h (Nat.pow_le_pow_right (by decide) hi))];rfl
theorem pb_sn {n c:Nat}(ha:a < 2 ^ n)(hc:c < 2 ^ n):pb ((a ^^^ b * 2 ^ n) &&& (c ^^^ d * 2 ^ n)) = (pb (a &&& c) ^^ pb (b &&& d)):=by
 rw [a0y,Nat.and_comm,a0y,Nat.and_comm _ (d * 2 ^ n),a0y,b2v hc,Nat.and_comm (d * 2 ^ n) a,b2v ha,a4j,pb_shift,Nat.and_comm c a,Nat.and_comm d b];simp
def sw (n d:Nat):Nat:=(d / 2 ^ n) ^^^ (d % 2 ^ n) * 2 ^ n
theorem b4q (n d:Nat):d=(d % 2 ^ n) ^^^ (d / 2 ^ n) * 2 ^ n:=by
 have h:=Nat.mod_add_div d (2 ^ n);have h1:=b2v (b:=d / 2 ^ n) (Nat.mod_lt d (Nat.two_pow_pos n));have h2:=a2x (d % 2 ^ n) (d / 2 ^ n * 2 ^ n);have h3:=a4y (d % 2 ^ n) (d / 2 ^ n * 2 ^ n);rw [Nat.mul_comm] at h;omega
theorem sw_lt {n:Nat}(h:d < 2 ^ (2 * n)):sw n d < 2 ^ (2 * n):=by
 unfold sw
 have h1:d / 2 ^ n < 2 ^ n:=by
  rw [Nat.div_lt_iff_lt_mul (Nat.two_pow_pos n),<- Nat.pow_add];exact Nat.lt_of_lt_of_le h (Nat.pow_le_pow_right (by decide) (by omega))
 have h2:d % 2 ^ n * 2 ^ n < 2 ^ (2 * n):=by
  rw [show 2 * n=n + n by omega,Nat.pow_add];exact Nat.mul_lt_mul_of_pos_right (Nat.mod_lt _ (Nat.two_pow_pos n)) (Nat.two_pow_pos n)
 exact Nat.xor_lt_two_pow (Nat.lt_of_lt_of_le h1 (Nat.pow_le_pow_right (by decide) (by omega))) h2
theorem pb_sw {n:Nat}(ok:r.Ok n)(hd:d < 2 ^ (2 * n)):pb (sn n ⟨0,r.z,r.x⟩ &&& sw n d) = pb (sn n r &&& d):=by
 have h1:d / 2 ^ n < 2 ^ n:=by
  rw [Nat.div_lt_iff_lt_mul (Nat.two_pow_pos n),<- Nat.pow_add];exact Nat.lt_of_lt_of_le hd (Nat.pow_le_pow_right (by decide) (by omega))
 conv=>rhs; rw [b4q n d]
 unfold sn sw;rw [pb_sn ok.z h1,pb_sn ok.x (Nat.mod_lt _ (Nat.two_pow_pos n)),Bool.xor_comm]
theorem symp_pb {n:Nat}{v:Row}(ok:r.Ok n)(kv:v.Ok n):pb (sn n ⟨0,r.z,r.x⟩ &&& sn n v) = a4z r v:=by
 unfold sn;rw [pb_sn ok.z kv.x];unfold a4z;rw [Bool.xor_comm]
theorem ind_room {l:List Nat}(h:Ind l)(hl:∀ u ∈ l,u < 2 ^ N):l.length <= N:=by
 have p:=pigeon (2 ^ l.length) (2 ^ N) (a0u l) (fun i _=>b6r i hl) (fun i j hi hj e=>b8k h hi hj e);exact (Nat.pow_le_pow_iff_right (by decide)).1 p
theorem iso {n:Nat}{rs:List Row}(ok:∀ r ∈ rs,r.Ok n)(com:∀ r ∈ rs,∀ s ∈ rs,a4z r s=false)(hi:Ind (rs.map (sn n))):rs.length <= n:=by
 have hu:∀ u ∈ rs.map (sn n),u < 2 ^ (2 * n):=fun u hu=>by
  obtain ⟨r,hr,rfl⟩:=List.mem_map.1 hu;exact sn_lt (ok r hr)
 obtain ⟨D,e1,e2,e3⟩:=duals (N:=2 * n) _ hi hu;rw [List.length_map] at e1
 have key:∀ j,j <= rs.length->Ind (rs.map (sn n) ++ (D.map (sw n)).take j):=by
  intro j
  induction j with
  | zero=>intro _; rw [List.take_zero,List.append_nil]; exact hi
  | succ j ih=>
   intro hj;have hjD:j < D.length:=by omega
   have hg:(D.map (sw n))[j]? = some (sw n D[j]):=by rw [List.getElem?_map,List.getElem?_eq_getElem hjD]; rfl
   have hr:rs[j]? = some rs[j]:=List.getElem?_eq_getElem (by omega);rw [a0q hg,<- List.append_assoc];refine b6j (ih (by omega)) fun z=>?_;obtain ⟨m,_,em⟩:=z;have okj:=ok rs[j] (List.getElem_mem _)
   have hf:∀ u ∈ rs.map (sn n) ++ (D.map (sw n)).take j,pb (sn n ⟨0,rs[j].z,rs[j].x⟩ &&& u) = false:=fun u hu=>by
    rcases List.mem_append.1 hu with hu | hu
    ·obtain ⟨s,hs,rfl⟩:=List.mem_map.1 hu;rw [symp_pb okj (ok s hs)];exact com _ (List.getElem_mem _) s hs
    ·obtain ⟨i,hi'⟩:=List.getElem?_of_mem hu;rw [List.getElem?_take] at hi'
     split at hi'
     ·rename_i hij;rw [List.getElem?_map] at hi'
      cases eD:D[i]? with
      | none=>rw [eD] at hi'; cases hi'
      | some d=>
       rw [eD] at hi';obtain rfl:sw n d=u:=Option.some.inj hi';rw [pb_sw okj (e2 d (List.mem_of_getElem? eD)),Nat.and_comm,e3 eD (by rw [List.getElem?_map,hr]; rfl)];exact decide_eq_false (by omega)
     ·cases hi'
   have h1:=b1f m hf;rw [em,pb_sw okj (e2 _ (List.getElem_mem _)),Nat.and_comm,e3 (List.getElem?_eq_getElem hjD) (by rw [List.getElem?_map,hr]; rfl),decide_eq_true rfl] at h1;cases h1
 have h2:=ind_room (N:=2 * n) (key rs.length (Nat.le_refl _)) fun u hu'=>by
  rcases List.mem_append.1 hu' with h | h
  ·exact hu u h
  ·obtain ⟨d,hd,rfl⟩:=List.mem_map.1 (List.mem_of_mem_take h);exact sw_lt (e2 d hd)
 rw [List.length_append,List.length_map,List.length_take,List.length_map,e1,Nat.min_self] at h2;omega
end Tw
namespace L2
open PySem PySem.Spec PyProof.Rows
section
variable {X:Cx}{k j:Nat}{ps:List Str}{sp:Sp}{x:Str}{C:Addr}{p pos:Pos}{e:Expr}{es:List Expr}{t:TA}
end
section
variable {X:Cx}{st b₀:Stmt}{suite:List Stmt}{W:Addr}{y:Str}{np hpos pos:Pos}{t:XK->TS}{ts:TS}
end
section
variable {X:Cx}{pos:Pos}
end
end L2
namespace Tw
open PySem L2
def Tch (d e:Dd):Prop:=∃ k ∈ d.w,k ∈ e.w
def Can (d e:Dd):Prop:=(d.k=.swap/\e.k=.swap/\d.w.Perm e.w)\/e=d.inv
open Classical in
noncomputable def fnd:List Dd->Dd->Option (List Dd)
 | [],_=>none
 | k :: ks,d=>if Tch k d then (if Can k d then some ks else none) else (fnd ks d).map (k :: ·)
noncomputable def push (r:List Dd)(d:Dd):List Dd:=(fnd r d).getD (d :: r)
structure Bt where
 a:Bool
 b:Bool
 c:Bool
 d:Bool
def fx (k:DK)(i j:Nat)(t:Bt):Nat:=
 match k with
 | .over=>0
 | .quarter=>0
 | .back=>0
 | .both=>(t.a ^^ t.b).toNat * 2 ^ i
 | .wher=>t.a.toNat * 2 ^ j
 | .swap=>(t.a ^^ t.c).toNat * 2 ^ i ^^^ (t.a ^^ t.c).toNat * 2 ^ j
end Tw
namespace Tw
open PySem PySem.Spec L2 PyProof.Rows
section
variable {K:PySem.W.Frag}{H:Hp}{Q:VK}{a b:Addr}{as bs:List Addr}{ds es:List Dd}{d e:Dd}
end
section
variable {prog:Program}{w:World}{A:Around}{E:Value->Shared->Prop}{s:Shared}
end
section
variable {X:Cx}
end
end Tw
namespace Tw
open PySem L2
def w1 (l:Row)(k:Nat):List Dd:=if l.x.testBit k=true then (if l.z.testBit k=true then [⟨.back,[k]⟩,⟨.both,[k]⟩] else [⟨.both,[k]⟩]) else []
end Tw
namespace Tw
open PySem L2
theorem b2s {l:List Nat}{N:Nat}:∀ (i:Nat) (z:Nat),(∀ q,z.testBit q=true->q < i)->(∀ q,z.testBit q=true->Spn l (2 ^ q))->Spn l z
 | 0,z,h,_=>by
  have:z=0:=by
   apply Nat.eq_of_testBit_eq;intro q;rw [Nat.zero_testBit]
   cases e:z.testBit q with
   | false=>rfl
   | true=>have:=h q e; omega
  rw [this];exact Spn.zero l
 | i + 1,z,h,g=>by
  cases e:z.testBit i with
  | false=>exact b2s (N:=N) i z (fun q hq=>by
    have h1:=h q hq
    rcases Nat.lt_or_ge q i with h2 | h2
    ·exact h2
    ·have:q=i:=by omega
     rw [this,e] at hq
     cases hq) g
  | true=>
   have tb:∀ q,(z ^^^ 2 ^ i).testBit q=true->z.testBit q=true/\q ≠ i:=fun q hq=>by
    rw [Nat.testBit_xor,Nat.testBit_two_pow] at hq
    by_cases c:i=q
    ·subst c; rw [e] at hq; simp at hq
    ·rw [decide_eq_false c] at hq;exact ⟨by simpa using hq,fun z=>c z.symm⟩
   have ih:=b2s (N:=N) i (z ^^^ 2 ^ i) (fun q hq=>by have:=h q (tb q hq).1; have:=(tb q hq).2; omega) fun q hq=>g q (tb q hq).1;have:=ih.xor (g i e)
   rwa [Nat.xor_assoc,Nat.xor_self,Nat.xor_zero] at this
end Tw
namespace Tw
open PySem L2
def trs (n:Nat):Nat->Nat
 | 0=>0
 | i + 1=>trs n i + 3 * (n - i)
end Tw
namespace L2
open PySem
theorem bigN {n:Nat}(h:n <= 100000):n < sizeLine:=Nat.lt_of_le_of_lt h (by decide)
section
variable {K:PySem.W.Frag}{H:Hp}{Q:VK}{σ:St}{a b l:Addr}{xs zs:List V}{y:V}
theorem st_appendB (h:H l=some (.lst xs))(hz:xs.length <= 100000)(q:Q .non (upd H l (.lst (xs ++ [y])))):rAppend (.ref l) [y] H Q:=⟨l,xs,y,rfl,rfl,h,bigN hz,q⟩
end
end L2
namespace Tw
open PySem L2
variable {l l' us:List Nat}{k u:Nat}
def Dim (P:Nat->Prop)(k:Nat):Prop:=∃ bs:List Nat,bs.length=k/\Ind bs/\∀ v,P v ↔ Spn bs v
theorem Dim.le {P Q:Nat->Prop}{l:Nat}(h:∀ v,P v->Q v)(hp:Dim P k)(hq:Dim Q l):k <= l:=by
 obtain ⟨bs,rfl,hi,hb⟩:=hp;obtain ⟨cs,rfl,hj,hc⟩:=hq
 have ex:∀ i,∃ m,i < 2 ^ bs.length->m < 2 ^ cs.length/\a0u cs m=a0u bs i:=fun i=>by
  by_cases c:i < 2 ^ bs.length
  ·obtain ⟨m,hm,e⟩:=(hc _).1 (h _ ((hb _).2 ⟨i,c,rfl⟩));exact ⟨m,fun _=>⟨hm,e⟩⟩
  ·exact ⟨0,fun z=>absurd z c⟩
 have p:=pigeon (2 ^ bs.length) (2 ^ cs.length) (fun i=>(ex i).choose) (fun i hi=>((ex i).choose_spec hi).1) fun i j hi' hj' e=>by
  have e1:=((ex i).choose_spec hi').2;have e2:=((ex j).choose_spec hj').2;have e':(ex i).choose=(ex j).choose:=e;rw [e'] at e1;exact b8k hi hi' hj' (e1.symm.trans e2)
 exact (Nat.pow_le_pow_iff_right (by decide)).1 p
theorem Dim.one {P Q:Nat->Prop}{l:Nat}(h:∀ v,P v ↔ Q v)(hp:Dim P k)(hq:Dim Q l):k=l:=
 Nat.le_antisymm (Dim.le (fun v=>(h v).1) hp hq) (Dim.le (fun v=>(h v).2) hq hp)
theorem Dim.iff {P Q:Nat->Prop}(h:∀ v,P v ↔ Q v)(hp:Dim P k):Dim Q k:=by
 obtain ⟨bs,e,hi,hb⟩:=hp;exact ⟨bs,e,hi,fun v=>(h v).symm.trans (hb v)⟩
theorem Dim.ind (h:Ind us):Dim (Spn us) us.length:=⟨us,rfl,h,fun _=>Iff.rfl⟩
theorem Spn.ap (h:Spn l u):Spn (l ++ l') u:=Spn.sub (fun a ha=>Spn.mem (List.mem_append_left _ ha)) h
theorem Spn.pa (h:Spn l' u):Spn (l ++ l') u:=Spn.sub (fun a ha=>Spn.mem (List.mem_append_right _ ha)) h
theorem ss_ind:∀ {ss:List Sm},(∀ s ∈ ss,s.t.testBit s.j=true)->ss.Pairwise (fun a b=>b.t.testBit a.j=false)->Ind (ss.map Sm.t)
 | [],_,_=>trivial
 | s :: r,h1,h2=>by
  obtain ⟨o1,o2⟩:=List.pairwise_cons.1 h2;refine ⟨fun ⟨m,_,e⟩=>?_,ss_ind (fun t ht=>h1 t (List.mem_cons_of_mem _ ht)) o2⟩
  have b:=a5g (j:=s.j) (vs:=r.map Sm.t) m fun v hv=>by
   obtain ⟨t,ht,rfl⟩:=List.mem_map.1 hv;exact o1 t ht
  rw [e,h1 s List.mem_cons_self] at b;cases b
theorem SpOk.dim {ss:List Sm}(ok:SpOk us ss):Dim (Spn us) ss.length:=by
 refine ⟨ss.map Sm.t,List.length_map ..,ss_ind ok.bit ok.ord,fun v=>⟨?_,?_⟩⟩
 ·rintro ⟨m,_,rfl⟩;obtain ⟨m',e⟩:=ok.cov m;exact ⟨m' % 2 ^ (ss.map Sm.t).length,Nat.mod_lt _ (Nat.two_pow_pos _),by rw [b8n]; exact e⟩
 ·intro h;refine Spn.sub (fun a ha=>?_) h;obtain ⟨s,hs,rfl⟩:=List.mem_map.1 ha;exact ⟨s.p,ok.lt s hs,(ok.tot s hs).symm⟩
theorem spok_all:∀ us:List Nat,∃ ss,SpOk us ss:=fun us=>by
 have:∀ k,k <= us.length->∃ ss,SpOk (us.take k) ss:=by
  intro k
  induction k with
  | zero=>intro _; rw [List.take_zero]; exact ⟨[],SpOk.nil⟩
  | succ k ih=>
   intro hk;obtain ⟨ss,ok⟩:=ih (by omega);rw [a0q (List.getElem?_eq_getElem (show k < us.length by omega))]
   by_cases c:(red ss us[k] (2 ^ (us.take k).length)).1=0
   ·exact ⟨_,ok.take us[k] 0 fun z=>absurd c z⟩
   ·obtain ⟨j,hj⟩:=Nat.exists_testBit_of_ne_zero c;exact ⟨_,ok.take us[k] j fun _=>hj⟩
 obtain ⟨ss,ok⟩:=this us.length (Nat.le_refl _);rw [List.take_length] at ok;exact ⟨ss,ok⟩
theorem Dim.ex {P:Nat->Prop}{N:Nat}(h0:P 0)(hx:∀ a b,P a->P b->P (a ^^^ b))(hN:∀ v,P v->v < 2 ^ N):∃ k,Dim P k:=by
 have cl:∀ us:List Nat,(∀ u ∈ us,P u)->∀ m,P (a0u us m):=by
  intro us
  induction us with
  | nil=>intro _ m; exact h0
  | cons u us ih=>
   intro hu m;show P ((if m.testBit 0=true then u else 0) ^^^ a0u us (m / 2));refine hx _ _ ?_ (ih (fun v hv=>hu v (List.mem_cons_of_mem _ hv)) _)
   split
   ·exact hu u List.mem_cons_self
   ·exact h0
 have:∃ us:List Nat,∀ v,v ∈ us ↔ P v:=by
  have:∀ m,∃ us:List Nat,∀ v,v ∈ us ↔ v < m/\P v:=by
   intro m
   induction m with
   | zero=>exact ⟨[],fun v=>by simp⟩
   | succ m ih=>
    obtain ⟨us,h⟩:=ih
    by_cases c:P m
    ·refine ⟨m :: us,fun v=>?_⟩;rw [List.mem_cons,h]
     constructor
     ·rintro (rfl | ⟨z1,z2⟩)
      ·exact ⟨by omega,c⟩
      ·exact ⟨by omega,z2⟩
     ·rintro ⟨z1,z2⟩
      by_cases e:v=m
      ·exact .inl e
      ·exact .inr ⟨by omega,z2⟩
    ·refine ⟨us,fun v=>?_⟩;rw [h]
     constructor
     ·rintro ⟨z1,z2⟩;exact ⟨by omega,z2⟩
     ·rintro ⟨z1,z2⟩;refine ⟨?_,z2⟩
      by_cases e:v=m
      ·exact absurd (e ▸ z2) c
      ·omega
  obtain ⟨us,h⟩:=this (2 ^ N);exact ⟨us,fun v=>(h v).trans ⟨fun z=>z.2,fun z=>⟨hN v z,z⟩⟩⟩
 obtain ⟨us,hu⟩:=this;obtain ⟨ss,ok⟩:=spok_all us;refine ⟨ss.length,Dim.iff (fun v=>⟨?_,fun h=>Spn.mem ((hu v).2 h)⟩) ok.dim⟩;rintro ⟨m,_,rfl⟩;exact cl us (fun u h=>(hu u).1 h) m
theorem b2x {f:Nat->Nat}(lin:∀ a b,f (a ^^^ b) = f a ^^^ f b):∀ (l:List Nat) (m:Nat),f (a0u l m) = a0u (l.map f) m:=by
 have f0:f 0=0:=by
  have:=lin 0 0
  rwa [Nat.xor_self,Nat.xor_self] at this
 intro l
 induction l with
 | nil=>intro m; exact f0
 | cons u l ih=>
  intro m;show f ((if m.testBit 0=true then u else 0) ^^^ a0u l (m / 2)) = (if m.testBit 0=true then f u else 0) ^^^ a0u (l.map f) (m / 2);rw [lin,ih]
  split
  ·rfl
  ·rw [f0]
theorem Spn.map {f:Nat->Nat}(lin:∀ a b,f (a ^^^ b) = f a ^^^ f b){l:List Nat}{v:Nat}(h:Spn l v):Spn (l.map f) (f v):=by
 obtain ⟨m,hm,rfl⟩:=h;exact ⟨m,by rw [List.length_map]; exact hm,(b2x lin l m).symm⟩
theorem Spn.map_iff {f:Nat->Nat}(lin:∀ a b,f (a ^^^ b) = f a ^^^ f b){w:Nat}:Spn (l.map f) w ↔ ∃ v,Spn l v/\f v=w:=by
 constructor
 ·rintro ⟨m,hm,rfl⟩;rw [List.length_map] at hm;exact ⟨a0u l m,⟨m,hm,rfl⟩,b2x lin l m⟩
 ·rintro ⟨v,h,rfl⟩;exact h.map lin
theorem b3v {f:Nat->Nat}(lin:∀ a b,f (a ^^^ b) = f a ^^^ f b){ks:List Nat}(hk:Ind ks)(h0:∀ u ∈ ks,f u=0):∀ {gs:List Nat},Ind (gs.map f)->Ind (gs ++ ks)
 | [],_=>hk
 | g :: gs,h=>by
  obtain ⟨h1,h2⟩:¬ Spn (gs.map f) (f g)/\Ind (gs.map f):=h;refine ⟨fun z=>h1 ?_,b3v lin hk h0 h2⟩;refine Spn.sub (fun a ha=>?_) (z.map lin);rw [show gs.append ks=gs ++ ks from rfl,List.map_append] at ha
  rcases List.mem_append.1 ha with ha | ha
  ·exact Spn.mem ha
  ·obtain ⟨u,hu,rfl⟩:=List.mem_map.1 ha;rw [h0 u hu];exact Spn.zero _
theorem Dim.map {P:Nat->Prop}{f:Nat->Nat}{n k r:Nat}(lin:∀ a b,f (a ^^^ b) = f a ^^^ f b)(hp:Dim P n)(hk:Dim (fun v=>P v/\f v=0) k)(hr:Dim (fun w=>∃ v,P v/\f v=w) r):n=k + r:=by
 obtain ⟨ks,rfl,ik,bk⟩:=hk;obtain ⟨fs,rfl,jf,bf⟩:=hr;obtain ⟨bs,rfl,ib,bb⟩:=hp;have px:∀ {a b},P a->P b->P (a ^^^ b):=fun {a b} x y=>(bb _).2 (((bb a).1 x).xor ((bb b).1 y))
 have gx:∀ l:List Nat,(∀ w ∈ l,∃ v,P v/\f v=w)->∃ gs:List Nat,gs.map f=l/\∀ g ∈ gs,P g:=by
  intro l
  induction l with
  | nil=>intro _; exact ⟨[],rfl,fun _ z=>(nomatch z)⟩
  | cons w l ih=>
   intro h;obtain ⟨v,hv,e⟩:=h w List.mem_cons_self;obtain ⟨gs,e2,hg⟩:=ih fun w' hw'=>h w' (List.mem_cons_of_mem _ hw');refine ⟨v :: gs,by rw [List.map_cons,e,e2],fun g hg'=>?_⟩
   rcases List.mem_cons.1 hg' with rfl | hg'
   ·exact hv
   ·exact hg g hg'
 obtain ⟨gs,eg,hg⟩:=gx fs fun w hw=>(bf w).2 (Spn.mem hw);have k0:∀ u ∈ ks,P u/\f u=0:=fun u hu=>(bk u).2 (Spn.mem hu);have hI:Ind (gs ++ ks):=b3v lin ik (fun u hu=>(k0 u hu).2) (by rw [eg]; exact jf)
 have hD:Dim P (gs ++ ks).length:=by
  refine ⟨gs ++ ks,rfl,hI,fun v=>⟨fun hv=>?_,fun hv=>?_⟩⟩
  ·obtain ⟨m,hm,e⟩:=(bf (f v)).1 ⟨v,hv,rfl⟩;rw [<- eg,<- b2x lin] at e
   have hgm:Spn gs (a0u gs m):=by
    rw [<- b8n];exact ⟨m % 2 ^ gs.length,Nat.mod_lt _ (Nat.two_pow_pos _),rfl⟩
   have hpm:P (a0u gs m):=(bb _).2 (Spn.sub (fun a ha=>(bb a).1 (hg a ha)) hgm);have hz:Spn ks (v ^^^ a0u gs m):=(bk _).1 ⟨px hv hpm,by rw [lin,e,Nat.xor_self]⟩;have:=(Spn.ap (l':=ks) hgm).xor (Spn.pa (l:=gs) hz)
   rwa [Nat.xor_comm v,<- Nat.xor_assoc,Nat.xor_self,Nat.zero_xor] at this
  ·refine (bb v).2 (Spn.sub (fun a ha=>(bb a).1 ?_) hv)
   rcases List.mem_append.1 ha with ha | ha
   ·exact hg a ha
   ·exact (k0 a ha).1
 have e:=Dim.one (fun _=>Iff.rfl) (⟨bs,rfl,ib,bb⟩:Dim P bs.length) hD;rw [e,List.length_append,<- eg,List.length_map];omega
theorem Dim.bits {L:List Nat}(nd:L.Nodup):Dim (fun v=>∀ q,v.testBit q=true->q ∈ L) L.length:=by
 refine ⟨L.map fun q=>2 ^ q,List.length_map ..,?_,fun v=>⟨fun h=>?_,fun h=>?_⟩⟩
 ·induction L with
  | nil=>trivial
  | cons q L ih=>
   obtain ⟨n1,n2⟩:=List.nodup_cons.1 nd;refine ⟨fun ⟨m,_,e⟩=>?_,ih n2⟩
   have b:=a5g (j:=q) (vs:=L.map fun q=>2 ^ q) m fun v hv=>by
    obtain ⟨t,ht,rfl⟩:=List.mem_map.1 hv;rw [Nat.testBit_two_pow];exact decide_eq_false fun z=>n1 (z ▸ ht)
   rw [e,Nat.testBit_two_pow,decide_eq_true rfl] at b;cases b
 ·exact b2s (N:=0) v v (fun q hq=>Nat.lt_of_lt_of_le Nat.lt_two_pow_self (Nat.ge_two_pow_of_testBit hq)) fun q hq=>Spn.mem (List.mem_map.2 ⟨q,h q hq,rfl⟩)
 ·obtain ⟨m,_,rfl⟩:=h;intro q hq
  by_cases c:q ∈ L
  ·exact c
  ·have b:=a5g (j:=q) (vs:=L.map fun q=>2 ^ q) m fun v hv=>by
    obtain ⟨t,ht,rfl⟩:=List.mem_map.1 hv;rw [Nat.testBit_two_pow];exact decide_eq_false fun z=>c (z ▸ ht)
   rw [hq] at b;cases b
theorem Dim.none {P:Nat->Prop}(h:∀ v,P v ↔ v=0):Dim P 0:=⟨[],rfl,trivial,fun v=>(h v).trans (sp_nil v).symm⟩
theorem b5n {v p:Nat}:v < 2 ^ p ↔ ∀ q,v.testBit q=true->q < p:=by
 constructor
 ·intro h q hq
  rcases Nat.lt_or_ge q p with c | c
  ·exact c
  ·rw [Nat.testBit_lt_two_pow (Nat.lt_of_lt_of_le h (Nat.pow_le_pow_right (by decide) c))] at hq;cases hq
 ·intro h;apply Nat.lt_pow_two_of_testBit;intro i hi
  cases e:v.testBit i with
  | false=>rfl
  | true=>have:=h i e; omega
theorem Dim.below (p:Nat):Dim (fun v=>v < 2 ^ p) p:=by
 have h:=Dim.bits (L:=List.range p) List.nodup_range;rw [List.length_range] at h;refine Dim.iff (fun v=>?_) h;rw [b5n];exact ⟨fun z q hq=>List.mem_range.1 (z q hq),fun z q hq=>List.mem_range.2 (z q hq)⟩
end Tw
namespace Tw
open PySem L2
variable {A us:List Nat}{M q u v:Nat}{r:Row}
def sy (n u v:Nat):Bool:=pb (sw n u &&& v)
def rowN (n v:Nat):Row:=⟨0,v % 2 ^ n,v / 2 ^ n⟩
theorem a5b {n:Nat}(h:v < 2 ^ (2 * n)):(rowN n v).Ok n:=by
 refine ⟨Nat.zero_le _,Nat.mod_lt _ (Nat.two_pow_pos n),?_⟩;show v / 2 ^ n < 2 ^ n;rw [Nat.div_lt_iff_lt_mul (Nat.two_pow_pos n),<- Nat.pow_add];exact Nat.lt_of_lt_of_le h (Nat.pow_le_pow_right (by decide) (by omega))
theorem a9h (n v:Nat):sn n (rowN n v) = v:=(b4q n v).symm
theorem sw_sn {n:Nat}(ok:r.Ok n):sw n (sn n r) = sn n ⟨0,r.z,r.x⟩:=by
 have h1:sn n r % 2 ^ n=r.x/\sn n r / 2 ^ n=r.z:=by
  have e:sn n r=r.x + r.z * 2 ^ n:=by
   unfold sn;have h1:=b2v (b:=r.z) ok.x;have h2:=a2x r.x (r.z * 2 ^ n);have h3:=a4y r.x (r.z * 2 ^ n);omega
  rw [e,Nat.add_mul_mod_self_right,Nat.mod_eq_of_lt ok.x,Nat.add_mul_div_right _ _ (Nat.two_pow_pos n),Nat.div_eq_of_lt ok.x,Nat.zero_add];exact ⟨rfl,rfl⟩
 unfold sw;rw [h1.1,h1.2];rfl
theorem a9t {n:Nat}{s:Row}(hr:r.Ok n)(hs:s.Ok n):sy n (sn n r) (sn n s) = a4z r s:=by
 unfold sy;rw [sw_sn hr,symp_pb hr hs]
theorem b3s {n:Nat}(hu:u < 2 ^ (2 * n))(hv:v < 2 ^ (2 * n)):sy n u v=sy n v u:=by
 have h1:=a9t (a5b hu) (a5b hv);have h2:=a9t (a5b hv) (a5b hu);rw [a9h,a9h] at h1 h2;rw [h1,h2,a6d]
theorem sw_bit {n d:Nat}(hd:d < 2 ^ (2 * n))(q:Nat):(sw n d).testBit q=if q < n then d.testBit (q + n) else if q < 2 * n then d.testBit (q - n) else false:=by
 unfold sw;rw [Nat.testBit_xor,Nat.testBit_div_two_pow,<- Nat.shiftLeft_eq,Nat.testBit_shiftLeft,Nat.testBit_mod_two_pow]
 by_cases c:q < n
 ·rw [if_pos c,decide_eq_false (by omega),Bool.false_and,Bool.xor_false,Nat.add_comm]
 ·rw [if_neg c,Nat.testBit_lt_two_pow (Nat.lt_of_lt_of_le hd (Nat.pow_le_pow_right (by decide) (by omega))),Bool.false_xor,decide_eq_true (by omega),Bool.true_and]
  by_cases c2:q < 2 * n
  ·rw [if_pos c2,decide_eq_true (by omega),Bool.true_and]
  ·rw [if_neg c2,decide_eq_false (by omega),Bool.false_and]
def plW (n:Nat)(A:List Nat):List Nat:=A ++ A.map (· + n)
structure Msk (n:Nat)(A:List Nat)(M:Nat):Prop where
 nd:A.Nodup
 lt:∀ k ∈ A,k < n
 bit:∀ q,M.testBit q=true ↔ q ∈ plW n A
theorem b1c {n:Nat}:q ∈ plW n A ↔ q ∈ A\/∃ k ∈ A,k + n=q:=by
 unfold plW;rw [List.mem_append,List.mem_map]
theorem Msk.low {n:Nat}(h:Msk n A M)(hq:q < n):M.testBit q=true ↔ q ∈ A:=by
 rw [h.bit,b1c];exact ⟨fun z=>z.elim id fun ⟨k,_,e⟩=>absurd e (by omega),.inl⟩
theorem Msk.high {n:Nat}(h:Msk n A M):M.testBit (q + n) = true ↔ q ∈ A:=by
 rw [h.bit,b1c];exact ⟨fun z=>z.elim (fun z=>absurd (h.lt _ z) (by omega)) fun ⟨k,hk,e⟩=>by rw [show q=k by omega]; exact hk,fun z=>.inr ⟨q,z,rfl⟩⟩
theorem Msk.sym {n:Nat}(h:Msk n A M)(hq:q < n):M.testBit (q + n) = M.testBit q:=by
 have h1:=h.low hq;have h2:=h.high (q:=q);cases e1:M.testBit q <;> cases e2:M.testBit (q + n) <;> simp_all
theorem Msk.ltM {n:Nat}(h:Msk n A M):M < 2 ^ (2 * n):=by
 rw [b5n];intro q hq
 rcases b1c.1 ((h.bit q).1 hq) with z | ⟨k,z,e⟩
 ·have:=h.lt q z; omega
 ·have:=h.lt k z; omega
theorem Msk.plnd {n:Nat}(h:Msk n A M):(plW n A).Nodup:=by
 refine List.nodup_append.2 ⟨h.nd,?_,fun a ha b hb e=>?_⟩
 ·exact List.Pairwise.map _ (fun a b z e=>z (by omega)) h.nd
 ·obtain ⟨k,hk,rfl⟩:=List.mem_map.1 hb;have:=h.lt a ha;omega
theorem sw_and {n:Nat}(h:Msk n A M)(hu:u < 2 ^ (2 * n)):sw n (u &&& M) = sw n u &&& M:=by
 have hum:u &&& M < 2 ^ (2 * n):=Nat.lt_of_le_of_lt Nat.and_le_left hu;apply Nat.eq_of_testBit_eq;intro q;rw [sw_bit hum,Nat.testBit_and (sw n u),sw_bit hu,Nat.testBit_and,Nat.testBit_and]
 by_cases c:q < n
 ·rw [if_pos c,if_pos c,h.sym c]
 ·rw [if_neg c,if_neg c]
  by_cases c2:q < 2 * n
  ·rw [if_pos c2,if_pos c2];have:=h.sym (q:=q - n) (by omega);rw [show q - n + n=q by omega] at this;rw [this]
  ·rw [if_neg c2,if_neg c2,Bool.false_and]
theorem sy_and {n:Nat}(h:Msk n A M)(hu:u < 2 ^ (2 * n))(v:Nat):sy n (u &&& M) v=sy n u (v &&& M):=by
 unfold sy;rw [sw_and h hu,Nat.and_assoc,Nat.and_comm M v]
theorem pb_sw2 {n a b:Nat}(ha:a < 2 ^ (2 * n))(hb:b < 2 ^ (2 * n)):pb (sw n a &&& sw n b) = pb (a &&& b):=by
 have h:=pb_sw (a5b ha) hb;rw [<- sw_sn (a5b ha),a9h] at h;exact h
def b2k:List Nat->Nat->Nat
 | [],_=>0
 | b :: l,v=>(pb (b &&& v)).toNat ^^^ 2 * b2k l v
theorem a3y:∀ (l:List Nat) (v j:Nat),(b2k l v).testBit j=match l[j]? with | some b=>pb (b &&& v) | none=>false
 | [],v,j=>by rw [b2k,Nat.zero_testBit]; rfl
 | b :: l,v,0=>by
  rw [b2k,Nat.testBit_xor];have h1:(2 * b2k l v).testBit 0=false:=by rw [Nat.testBit_zero]; simp
  rw [h1,Bool.xor_false];show _=pb (b &&& v);cases pb (b &&& v) <;> rfl
 | b :: l,v,j + 1=>by
  rw [b2k,Nat.testBit_xor,Nat.testBit_succ,Nat.testBit_succ,Nat.mul_div_cancel_left _ (by decide),a3y l v j]
  have h1:((pb (b &&& v)).toNat / 2).testBit j=false:=by
   cases pb (b &&& v) <;> exact Nat.zero_testBit j
  rw [h1,Bool.false_xor];rfl
theorem a5n (l:List Nat)(a b:Nat):b2k l (a ^^^ b) = b2k l a ^^^ b2k l b:=by
 apply Nat.eq_of_testBit_eq;intro j;rw [Nat.testBit_xor,a3y,a3y,a3y]
 cases l[j]? with
 | none=>rfl
 | some c=>exact a0y c a b
theorem a7q {l:List Nat}:b2k l v=0 ↔ ∀ b ∈ l,pb (b &&& v) = false:=by
 constructor
 ·intro h b hb;obtain ⟨j,hj⟩:=List.getElem?_of_mem hb;have:=a3y l v j;rw [h,Nat.zero_testBit,hj] at this;exact this.symm
 ·intro h;apply Nat.eq_of_testBit_eq;intro j;rw [a3y,Nat.zero_testBit]
  cases e:l[j]? with
  | none=>rfl
  | some b=>exact h b (List.mem_of_getElem? e)
theorem synd_lt (l:List Nat)(v:Nat):b2k l v < 2 ^ l.length:=by
 rw [b5n];intro q hq;rw [a3y] at hq
 rcases Nat.lt_or_ge q l.length with c | c
 ·exact c
 ·rw [List.getElem?_eq_none c] at hq;cases hq
theorem pb_xsel {f:Nat}:∀ {D:List Nat} {m j:Nat},(∀ {i d},D[i]? = some d->pb (f &&& d) = decide (i=j))->j < D.length->pb (f &&& a0u D m) = m.testBit j
 | [],m,j,_,h=>absurd h (Nat.not_lt_zero _)
 | d :: D,m,j,h,hj=>by
  show pb (f &&& ((if m.testBit 0=true then d else 0) ^^^ a0u D (m / 2))) = _;rw [a0y];have h0:=h (i:=0) rfl
  cases j with
  | zero=>
   have a2e:pb (f &&& a0u D (m / 2)) = false:=b1f (m / 2) fun u hu=>by
    obtain ⟨i,hi⟩:=List.getElem?_of_mem hu;rw [h (i:=i + 1) hi];exact decide_eq_false (by omega)
   rw [a2e,Bool.xor_false]
   cases e:m.testBit 0 with
   | true=>rw [if_pos rfl,h0]; rfl
   | false=>rw [if_neg (by decide),Nat.and_zero,a4j]
  | succ j=>
   rw [pb_xsel (j:=j) (fun {i d'} hi=>by
    rw [h (i:=i + 1) hi]
    by_cases c:i=j
    ·rw [decide_eq_true c,decide_eq_true (by omega)]
    ·rw [decide_eq_false c,decide_eq_false (by omega)]) (by simpa using hj),<- Nat.testBit_succ]
   have:pb (f &&& (if m.testBit 0=true then d else 0)) = false:=by
    split
    ·rw [h0]; rfl
    ·rw [Nat.and_zero,a4j]
   rw [this,Bool.false_xor]
theorem b4z {N:Nat}(h:∀ u ∈ us,u < 2 ^ N)(hv:Spn us v):v < 2 ^ N:=by
 obtain ⟨m,_,rfl⟩:=hv;exact b6r m h
theorem sy_spn {n:Nat}(h:∀ u ∈ us,sy n v u=false){w:Nat}(hw:Spn us w):sy n v w=false:=by
 obtain ⟨m,_,rfl⟩:=hw;exact b1f m h
theorem sy_max {n:Nat}(hu:∀ u ∈ us,u < 2 ^ (2 * n))(hi:Ind us)(hl:us.length=n)(com:∀ u ∈ us,∀ v ∈ us,sy n u v=false)(hv:v < 2 ^ (2 * n))(h:∀ u ∈ us,sy n u v=false):Spn us v:=by
 by_cases c:Spn us v
 ·exact c
 ·exfalso
  have hu':∀ u ∈ us ++ [v],u < 2 ^ (2 * n):=fun u z=>by
   rcases List.mem_append.1 z with z | z
   ·exact hu u z
   ·rw [List.mem_singleton.1 z]; exact hv
  have vv:sy n v v=false:=by
   have h1:=a9t (a5b hv) (a5b hv);rw [a9h,symp_self] at h1;exact h1
  have i:=iso (n:=n) (rs:=(us ++ [v]).map (rowN n)) (fun r hr=>by
    obtain ⟨u,z,rfl⟩:=List.mem_map.1 hr
    exact a5b (hu' u z)) (fun r hr s hs=>by
    obtain ⟨a,za,rfl⟩:=List.mem_map.1 hr;obtain ⟨b,zb,rfl⟩:=List.mem_map.1 hs;rw [<- a9t (a5b (hu' a za)) (a5b (hu' b zb)),a9h,a9h]
    rcases List.mem_append.1 za with za' | za' <;> rcases List.mem_append.1 zb with zb' | zb'
    ·exact com a za' b zb'
    ·rw [List.mem_singleton.1 zb']; exact h a za'
    ·rw [List.mem_singleton.1 za',b3s hv (hu b zb')]; exact h b zb'
    ·rw [List.mem_singleton.1 za',List.mem_singleton.1 zb']; exact vv) (by
    rw [List.map_map,show (us ++ [v]).map (sn n ∘ rowN n) = us ++ [v] from (List.map_congr_left fun u _=>a9h n u).trans (List.map_id _)]
    exact b6j hi c)
  rw [List.length_map,List.length_append,hl] at i;simp only [List.length_singleton] at i;omega
theorem a9g (M a b:Nat):(a ^^^ b) &&& M=(a &&& M) ^^^ (b &&& M):=Nat.and_xor_distrib_right ..
theorem half {n:Nat}(hu:∀ u ∈ us,u < 2 ^ (2 * n))(hi:Ind us)(hl:us.length=n)(com:∀ u ∈ us,∀ v ∈ us,sy n u v=false){B:List Nat}{MA MB:Nat}(mA:Msk n A MA)(mB:Msk n B MB)(hAB:∀ k,k < n->(k ∈ A ↔ k ∉ B))
  {ka kb:Nat} (da:Dim (Spn (us.map (· &&& MA))) ka) (db:Dim (Spn (us.map (· &&& MB))) kb):ka + B.length=kb + A.length/\A.length <= ka/\ka <= 2 * A.length:=by
 have lAB:(A ++ B).length=n:=by
  refine Dim.one (fun v=>?_) (Dim.bits (L:=A ++ B) (List.nodup_append.2 ⟨mA.nd,mB.nd,fun a ha b hb e=>((hAB b (mB.lt b hb)).1 (e ▸ ha)) hb⟩)) (Dim.below n);rw [b5n];refine ⟨fun z q hq=>?_,fun z q hq=>?_⟩
  ·rcases List.mem_append.1 (z q hq) with y | y
   ·exact mA.lt q y
   ·exact mB.lt q y
  ·by_cases c:q ∈ B
   ·exact List.mem_append_right _ c
   ·exact List.mem_append_left _ ((hAB q (z q hq)).2 c)
 rw [List.length_append] at lAB;obtain ⟨d,dd⟩:=Dim.ex (P:=fun v=>Spn us v/\v &&& MA=0) (N:=2 * n) ⟨Spn.zero _,Nat.zero_and _⟩ (fun a b x y=>⟨x.1.xor y.1,by rw [a9g,x.2,y.2]; rfl⟩) (fun v z=>b4z hu z.1);have e1:=Dim.map (f:=(· &&& MA)) (a9g MA) (Dim.ind hi) dd (Dim.iff (fun w=>Spn.map_iff (a9g MA)) da)
 rw [hl] at e1
 have cross:∀ q,q < 2 * n->(q ∈ plW n A ↔ q ∉ plW n B):=fun q hq=>by
  rw [b1c,b1c]
  by_cases c:q < n
  ·have h:=hAB q c;refine ⟨fun z=>?_,fun z=>?_⟩
   ·rcases z with z | ⟨k,_,e⟩
    ·rintro (y | ⟨k,_,e⟩)
     ·exact h.1 z y
     ·omega
    ·omega
   ·exact .inl (h.2 fun y=>z (.inl y))
  ·have h:=hAB (q - n) (by omega);refine ⟨fun z=>?_,fun z=>?_⟩
   ·rcases z with z | ⟨k,hk,e⟩
    ·exact absurd (mA.lt q z) (by omega)
    ·rintro (y | ⟨j,hj,e'⟩)
     ·exact absurd (mB.lt q y) (by omega)
     ·obtain rfl:k=q - n:=by omega
      obtain rfl:j=q - n:=by omega
      exact h.1 hk hj
   ·exact .inr ⟨q - n,h.2 fun y=>z (.inr ⟨q - n,y,by omega⟩),by omega⟩
 have sup:∀ v,v < 2 ^ (2 * n)->(v &&& MA=0 ↔ ∀ q,v.testBit q=true->q ∈ plW n B):=fun v hv=>by
  refine ⟨fun z q hq=>?_,fun z=>?_⟩
  ·have ql:=b5n.1 hv q hq
   by_cases c:q ∈ plW n B
   ·exact c
   ·have:=(mA.bit q).2 ((cross q ql).2 c);have e:=congrArg (fun x=>x.testBit q) z;rw [Nat.testBit_and,hq,this,Nat.zero_testBit] at e;cases e
  ·apply Nat.eq_of_testBit_eq;intro q;rw [Nat.testBit_and,Nat.zero_testBit]
   cases e1:v.testBit q with
   | false=>rfl
   | true=>
    cases e2:MA.testBit q with
    | false=>rfl
    | true=>exact absurd (z q e1) ((cross q (b5n.1 hv q e1)).1 ((mA.bit q).1 e2))
 have stay:∀ {v},(∀ q,v.testBit q=true->q ∈ plW n B)->v &&& MB=v:=fun {v} z=>by
  apply Nat.eq_of_testBit_eq;intro q;rw [Nat.testBit_and]
  cases e1:v.testBit q with
  | false=>rfl
  | true=>rw [(mB.bit q).2 (z q e1)]; rfl
 have ltB:∀ {v},(∀ q,v.testBit q=true->q ∈ plW n B)->v < 2 ^ (2 * n):=fun {v} z=>by
  rw [b5n];exact fun q hq=>b5n.1 mB.ltM q ((mB.bit q).2 (z q hq))
 obtain ⟨bs,lb,ib,bb⟩:=id db;have inB:∀ b ∈ bs,∃ u,Spn us u/\u &&& MB=b:=fun b hb=>(Spn.map_iff (a9g MB)).1 ((bb b).2 (Spn.mem hb))
 have bsl:∀ b ∈ bs,b < 2 ^ (2 * n)/\b &&& MB=b:=fun b hb=>by
  obtain ⟨u,h1,rfl⟩:=inB b hb;exact ⟨Nat.lt_of_le_of_lt Nat.and_le_left (b4z hu h1),by rw [Nat.and_assoc,Nat.and_self]⟩
 have LBnd:=mB.plnd;have d2:=Dim.bits LBnd
 have e2:=Dim.map (f:=b2k (bs.map (sw n))) (a5n _) d2 (k:=d) (r:=kb) (Dim.iff (fun v=>by
  constructor
  ·rintro ⟨h1,h2⟩;have vl:=b4z hu h1;have sp:=(sup v vl).1 h2;refine ⟨sp,a7q.2 fun b hb=>?_⟩;obtain ⟨b',hb',rfl⟩:=List.mem_map.1 hb;obtain ⟨u,hu1,rfl⟩:=inB b' hb';show sy n (u &&& MB) v=false;rw [sy_and mB (b4z hu hu1),stay sp,b3s (b4z hu hu1) vl];refine sy_spn (fun w hw=>?_) hu1;rw [b3s vl (hu w hw)];exact sy_spn (fun x hx=>com w hw x hx) h1
  ·rintro ⟨sp,h2⟩;have vl:=ltB sp;rw [a7q] at h2;refine ⟨sy_max hu hi hl com vl fun u hu'=>?_,(sup v vl).2 sp⟩;have hub:Spn bs (u &&& MB):=(bb _).1 (Spn.mem (List.mem_map.2 ⟨u,hu',rfl⟩));rw [<- stay sp,<- sy_and mB (hu u hu'),b3s (Nat.lt_of_le_of_lt Nat.and_le_left (hu u hu')) vl];refine sy_spn (fun b hb=>?_) hub;rw [b3s vl (bsl b hb).1]
   exact h2 _ (List.mem_map.2 ⟨b,hb,rfl⟩)) dd) (Dim.iff (fun w=>by
  constructor
  ·intro hw;obtain ⟨D,eD1,eD2,eD3⟩:=duals (N:=2 * n) bs ib fun b hb=>(bsl b hb).1
   have DB:∀ {i d:Nat},(D.map fun d=>sw n d &&& MB)[i]? = some d->∀ q,d.testBit q=true->q ∈ plW n B:=fun {i d} hd q hq=>by
    obtain ⟨x,_,rfl⟩:=List.mem_map.1 (List.mem_of_getElem? hd);rw [Nat.testBit_and,Bool.and_eq_true] at hq;exact (mB.bit q).1 hq.2
   refine ⟨a0u (D.map fun d=>sw n d &&& MB) w,fun q hq=>?_,?_⟩
   ·by_cases c:q ∈ plW n B
    ·exact c
    ·have:=a5g (j:=q) (vs:=D.map fun d=>sw n d &&& MB) w fun v hv=>by
      obtain ⟨i,hi'⟩:=List.getElem?_of_mem hv
      cases e:v.testBit q with
      | false=>rfl
      | true=>exact absurd (DB hi' q e) c
     rw [hq] at this;cases this
   ·apply Nat.eq_of_testBit_eq;intro j;rw [a3y,List.getElem?_map]
    cases ej:bs[j]? with
    | none=>
     rw [Nat.testBit_lt_two_pow (Nat.lt_of_lt_of_le hw (Nat.pow_le_pow_right (by decide) (by rw [<- lb]; exact List.getElem?_eq_none_iff.1 ej)))];rfl
    | some b=>
     have jl:=(List.getElem?_eq_some_iff.1 ej).1;have hb:=List.mem_of_getElem? ej;show pb (sw n b &&& a0u (D.map fun d=>sw n d &&& MB) w) = _;refine pb_xsel (fun {i d} hd=>?_) (by rw [List.length_map,eD1]; exact jl);rw [List.getElem?_map] at hd
     cases eDi:D[i]? with
     | none=>rw [eDi] at hd; cases hd
     | some x=>
      rw [eDi] at hd;obtain rfl:sw n x &&& MB=d:=Option.some.inj hd;have hx:=eD2 x (List.mem_of_getElem? eDi);have:=sy_and mB (bsl b hb).1 (sw n x);rw [(bsl b hb).2] at this;show sy n b (sw n x &&& MB) = _;rw [<- this];show pb (sw n b &&& sw n x) = _;rw [pb_sw2 (bsl b hb).1 hx,Nat.and_comm,eD3 eDi ej]
  ·rintro ⟨v,_,rfl⟩;have:=synd_lt (bs.map (sw n)) v;rw [List.length_map,lb] at this
   exact this) (Dim.below kb))
 have lLB:(plW n B).length=2 * B.length:=by unfold plW; rw [List.length_append,List.length_map]; omega
 rw [lLB] at e2
 have h3:d <= kb:=Dim.le (fun v ⟨h1,h2⟩=>by
  have sp:=(sup v (b4z hu h1)).1 h2;rw [<- stay sp]
  exact h1.map (a9g MB)) dd db
 have h4:ka <= (plW n A).length:=Dim.le (fun v hv=>by
  obtain ⟨u,_,rfl⟩:=(Spn.map_iff (a9g MA)).1 hv;intro q hq;rw [Nat.testBit_and,Bool.and_eq_true] at hq
  exact (mA.bit q).1 hq.2) da (Dim.bits mA.plnd)
 have lLA:(plW n A).length=2 * A.length:=by unfold plW; rw [List.length_append,List.length_map]; omega
 omega
end Tw
namespace Tw
open PySem L2
variable {A:List Nat}
def smP (A:List Nat):Nat:=(A.map fun k=>2 ^ k).sum
theorem a4h:∀ {A:List Nat},A.Nodup->∀ q,(smP A).testBit q=true ↔ q ∈ A
 | [],_,q=>by
  show Nat.testBit 0 q=true ↔ _;rw [Nat.zero_testBit];simp
 | k :: A,nd,q=>by
  obtain ⟨n1,n2⟩:=List.nodup_cons.1 nd;have ih:=a4h n2
  have h0:2 ^ k &&& smP A=0:=by
   apply Nat.eq_of_testBit_eq;intro j;rw [Nat.testBit_and,Nat.testBit_two_pow,Nat.zero_testBit]
   by_cases c:k=j
   ·subst c
    cases e:(smP A).testBit k with
    | false=>simp
    | true=>exact absurd ((ih k).1 e) n1
   ·rw [decide_eq_false c]; rfl
  have e:smP (k :: A) = 2 ^ k ^^^ smP A:=by
   show 2 ^ k + smP A=_;have h1:=a4y (2 ^ k) (smP A);have h2:=a2x (2 ^ k) (smP A);omega
  rw [e,Nat.testBit_xor,Nat.testBit_two_pow,List.mem_cons,<- ih q]
  by_cases c:k=q
  ·subst c
   have:(smP A).testBit k=false:=by
    cases e:(smP A).testBit k with
    | false=>rfl
    | true=>exact absurd ((ih k).1 e) n1
   rw [this];simp
  ·rw [decide_eq_false c,Bool.false_xor];exact ⟨.inr,fun z=>z.elim (fun z=>absurd z.symm c) id⟩
theorem b0g {n:Nat}(nd:A.Nodup)(h:∀ k ∈ A,k < n):smP A < 2 ^ n:=by
 rw [b5n];exact fun q hq=>h q ((a4h nd q).1 hq)
def MM (n:Nat)(A:List Nat):Nat:=smP A ^^^ smP A * 2 ^ n
theorem b2e {n:Nat}{x z:Nat}(hx:x < 2 ^ n)(q:Nat):(x ^^^ z * 2 ^ n).testBit q=if q < n then x.testBit q else z.testBit (q - n):=by
 rw [Nat.testBit_xor,<- Nat.shiftLeft_eq,Nat.testBit_shiftLeft]
 by_cases c:q < n
 ·rw [if_pos c,decide_eq_false (by omega),Bool.false_and,Bool.xor_false]
 ·rw [if_neg c,decide_eq_true (by omega),Bool.true_and,Nat.testBit_lt_two_pow (Nat.lt_of_lt_of_le hx (Nat.pow_le_pow_right (by decide) (by omega))),Bool.false_xor]
theorem MM_msk {n:Nat}(nd:A.Nodup)(h:∀ k ∈ A,k < n):Msk n A (MM n A):=by
 refine ⟨nd,h,fun q=>?_⟩;unfold MM;rw [b2e (b0g nd h),b1c]
 by_cases c:q < n
 ·rw [if_pos c,a4h nd];exact ⟨.inl,fun z=>z.elim id fun ⟨k,_,e⟩=>absurd e (by omega)⟩
 ·rw [if_neg c,a4h nd];refine ⟨fun z=>.inr ⟨q - n,z,by omega⟩,fun z=>z.elim (fun z=>absurd (h q z) c) fun ⟨k,hk,e⟩=>?_⟩;rw [show q - n=k by omega];exact hk
def cutr (mk:Nat)(r:Row):Row:=⟨r.m,r.x &&& mk,r.z &&& mk⟩
theorem sn_cut {n mk:Nat}{r:Row}(ok:r.Ok n)(hm:mk < 2 ^ n):sn n (cutr mk r) = sn n r &&& (mk ^^^ mk * 2 ^ n):=by
 apply Nat.eq_of_testBit_eq;intro q;unfold sn cutr;rw [Nat.testBit_and,b2e ok.x,b2e hm,b2e (Nat.lt_of_le_of_lt Nat.and_le_left ok.x)]
 by_cases c:q < n
 ·rw [if_pos c,if_pos c,if_pos c,Nat.testBit_and]
 ·rw [if_neg c,if_neg c,if_neg c,Nat.testBit_and]
theorem b4w:∀ {us:List Nat},¬ Dep us->Ind us
 | [],_=>trivial
 | b :: l,h=>⟨fun z=>h ⟨0,b,rfl,z⟩,b4w fun ⟨k,u,e,z⟩=>h ⟨k + 1,u,e,Spn.sub (fun a ha=>Spn.mem (List.mem_cons_of_mem _ ha)) z⟩⟩
def Rk (n:Nat)(rs:List Row)(A:List Nat)(k:Nat):Prop:=Dim (Spn ((rs.map (sn n)).map (· &&& MM n A))) k
theorem Rk.of {n:Nat}{rs:List Row}(ok:∀ r ∈ rs,r.Ok n)(nd:A.Nodup)(h:∀ k ∈ A,k < n){ss:List Sm}(s:SpOk (rs.map fun r=>sn n (cutr (smP A) r)) ss):Rk n rs A ss.length:=by
 have e:(rs.map fun r=>sn n (cutr (smP A) r)) = (rs.map (sn n)).map (· &&& MM n A):=by
  rw [List.map_map];exact List.map_congr_left fun r hr=>sn_cut (ok r hr) (b0g nd h)
 have d:=s.dim;rw [e] at d;exact d
theorem Rk.half {n:Nat}{rs:List Row}(ok:∀ r ∈ rs,r.Ok n)(g:Gd n rs){A B:List Nat}(ndA:A.Nodup)(hA:∀ k ∈ A,k < n)(ndB:B.Nodup)(hB:∀ k ∈ B,k < n)(hAB:∀ k,k < n->(k ∈ A ↔ k ∉ B)){ka kb:Nat}(a:Rk n rs A ka)(b:Rk n rs B kb):ka + B.length=kb + A.length/\A.length <= ka/\ka <= 2 * A.length:=by
 refine Tw.half (fun u hu=>?_) (b4w g.2.2) (by rw [List.length_map]; exact g.1) (fun u hu v hv=>?_) (MM_msk ndA hA) (MM_msk ndB hB) hAB a b
 ·obtain ⟨r,hr,rfl⟩:=List.mem_map.1 hu;exact sn_lt (ok r hr)
 ·obtain ⟨r,hr,rfl⟩:=List.mem_map.1 hu;obtain ⟨s,hs,rfl⟩:=List.mem_map.1 hv;rw [a9t (ok r hr) (ok s hs)];exact g.2.1 r hr s hs
theorem Rk.ex (n:Nat)(rs:List Row)(A:List Nat):∃ k,Rk n rs A k:=by
 obtain ⟨ss,ok⟩:=spok_all ((rs.map (sn n)).map (· &&& MM n A))
 exact ⟨_,ok.dim⟩
end Tw
namespace L2
open PySem PySem.Spec PyProof.Rows
section
variable {X:Cx}{pos:Pos}
end
end L2
set_option maxHeartbeats 4000000
namespace Tw
open PySem L2
variable {k:DK}{d:Dd}{p:Int × Int}{B N b c i j:Nat}{e:Nat × Int × Int}{r:Row}{ws:Wh}
theorem clr_int (b i:Nat):(b:Int) - (((b.testBit i).toNat * 2 ^ i:Nat):Int) = ((clr b i:Nat):Int):=by
 have h:(b.testBit i).toNat * 2 ^ i <= b:=by
  cases e:b.testBit i with
  | false=>simp
  | true=>
   have:=Nat.ge_two_pow_of_testBit e
   simpa using this
 unfold clr;omega
theorem wput_len (ws:Wh)(b:Nat)(p:Int × Int):(wput ws b p).length <= ws.length + 1:=by
 unfold wput
 split <;> simp
theorem deedF_step (h:ws[i]? = some e):a4m d (ws.take (i + 1)) = adds (a4m d (ws.take i)) (a3q d.k (d.w.getD 0 0) (d.w.getD 1 0) e):=by
 unfold a4m;rw [a0q h,List.foldl_append];rfl
theorem adds_len:∀ (es ws:Wh),(adds ws es).length <= ws.length + es.length
 | [],ws=>by simp [adds]
 | e :: es,ws=>by
  have h:=adds_len es (b5u ws e.1 e.2);have h2:=wput_len ws e.1 (((wat ws e.1).getD (0,0)).1 + e.2.1,((wat ws e.1).getD (0,0)).2 + e.2.2);show (adds (b5u ws e.1 e.2) es).length <= _;unfold b5u at h ⊢;simp only [List.length_cons];omega
theorem deedW_len (k:DK)(i j:Nat)(e:Nat × Int × Int):(a3q k i j e).length <= 2:=by cases k <;> simp [a3q]
theorem xor_two (b x:Nat):b ^^^ x ^^^ x=b:=by rw [Nat.xor_assoc,Nat.xor_self,Nat.xor_zero]
theorem ex_two (hij:i ≠ j)(b:Nat):ex (ex b i j) i j=b:=by
 have hji:j ≠ i:=Ne.symm hij
 have e:((ex b i j).testBit i ^^ (ex b i j).testBit j) = (b.testBit i ^^ b.testBit j):=by
  unfold ex;simp only [Nat.testBit_xor,a2a,hij,hji,decide_true,decide_false,Bool.true_and,Bool.false_and,Bool.xor_false];cases b.testBit i <;> cases b.testBit j <;> rfl
 show ex b i j ^^^ ((ex b i j).testBit i ^^ (ex b i j).testBit j).toNat * 2 ^ i ^^^ ((ex b i j).testBit i ^^ (ex b i j).testBit j).toNat * 2 ^ j=b;rw [e];unfold ex;generalize (b.testBit i ^^ b.testBit j).toNat * 2 ^ i=u;generalize (b.testBit i ^^ b.testBit j).toNat * 2 ^ j=v;apply Nat.eq_of_testBit_eq;intro q;simp only [Nat.testBit_xor];cases b.testBit q <;> cases u.testBit q <;> cases v.testBit q <;> rfl
theorem down_clr (b i:Nat):(b ||| 2 ^ i) ^^^ 2 ^ i=clr b i:=by
 apply Nat.eq_of_testBit_eq;intro q;rw [Nat.testBit_xor,Nat.testBit_or,a7y,Nat.testBit_two_pow]
 by_cases h:i=q
 ·subst h; simp
 ·simp [h]
theorem b0v (b i:Nat):clr b i + 2 ^ i=b ||| 2 ^ i:=by
 have h:=b8e (a:=clr b i) (i:=i) (b:=true) (by rw [a7y]; simp);rw [Bool.toNat_true,Nat.one_mul] at h;rw [h,<- down_clr,xor_two]
theorem wadd_nd (h:(ws.map (·.1)).Nodup):((b5u ws b p).map (·.1)).Nodup:=by
 unfold b5u;rw [wput_keys]
 split
 ·exact h
 ·rename_i hn;refine List.nodup_append.mpr ⟨h,by simp,fun x hx y hy z=>hn ?_⟩;rw [List.mem_singleton.mp hy] at z;obtain ⟨e,he,rfl⟩:=List.mem_map.mp hx;rw [List.any_eq_true];exact ⟨e,he,by simpa using z⟩
theorem deedF_nd (d:Dd)(ws:Wh):((a4m d ws).map (·.1)).Nodup:=by
 have ad:∀ (es acc:Wh),(acc.map (·.1)).Nodup->((adds acc es).map (·.1)).Nodup:=by
  intro es
  induction es with
  | nil=>intro acc h; exact h
  | cons e es ih=>intro acc h; exact ih _ (wadd_nd h)
 have key:∀ (es acc:Wh),(acc.map (·.1)).Nodup->((es.foldl (fun acc e=>adds acc (a3q d.k (d.w.getD 0 0) (d.w.getD 1 0) e)) acc).map (·.1)).Nodup:=by
  intro es
  induction es with
  | nil=>intro acc h; exact h
  | cons e es ih=>intro acc h; exact ih _ (ad _ _ h)
 exact key ws [] (by simp)
theorem nodup_below:∀ (N:Nat) (l:List Nat),l.Nodup->(∀ x ∈ l,x < N)->l.length <= N:=by
 intro N
 induction N with
 | zero=>
  intro l _ h
  cases l with
  | nil=>exact Nat.le_refl _
  | cons x l=>exact absurd (h x (by simp)) (by omega)
 | succ N ih=>
  intro l nd h
  have h1:=ih (l.erase N) (nd.erase _) fun x hx=>by
   have hm:=(List.Nodup.mem_erase_iff nd).mp hx;have:=h x hm.2;have:=hm.1;omega
  have h2:l.length <= (l.erase N).length + 1:=by
   rw [List.length_erase]
   split <;> omega
  omega
theorem ln1 {α:Type}{l:List α}(h:l.length=1):∃ x,l=[x]:=List.length_eq_one_iff.mp h
theorem ln2 {α:Type}{l:List α}(h:l.length=2):∃ x y,l=[x,y]:=by
 match l,h with
 | [x,y],_=>exact ⟨x,y,rfl⟩
theorem wput_lt (h:∀ e ∈ ws,e.1 < N)(hb:b < N):∀ e ∈ wput ws b p,e.1 < N:=by
 intro e he;have hm:e.1 ∈ (wput ws b p).map (·.1):=List.mem_map.mpr ⟨e,he,rfl⟩
 rw [wput_keys] at hm
 split at hm
 ·obtain ⟨x,hx,ex⟩:=List.mem_map.mp hm;rw [<- ex];exact h x hx
 ·rcases List.mem_append.mp hm with hm | hm
  ·obtain ⟨x,hx,ex⟩:=List.mem_map.mp hm;rw [<- ex];exact h x hx
  ·rw [List.mem_singleton.mp hm];exact hb
theorem adds_lt :∀ (es:Wh) {acc:Wh},(∀ e ∈ acc,e.1 < N)->(∀ e ∈ es,e.1 < N)->∀ e ∈ adds acc es,e.1 < N:=by
 intro es
 induction es with
 | nil=>intro acc h _; exact h
 | cons x es ih=>intro acc h h2; exact ih (wput_lt h (h2 x (by simp))) fun e he=>h2 e (List.mem_cons_of_mem _ he)
theorem deedW_lt {n:Nat}(ok:d.Ok n)(h:e.1 < 2 ^ n):∀ x ∈ a3q d.k (d.w.getD 0 0) (d.w.getD 1 0) e,x.1 < 2 ^ n:=by
 obtain ⟨k,wl⟩:=d;have hlen:=ok.len;have hlt:=ok.lt;have hnd:=ok.nd;have p2:∀ i,i < n->2 ^ i < 2 ^ n:=fun i hi=>Nat.pow_lt_pow_right (by decide) hi;intro x hx
 cases k with
 | over=>
  obtain ⟨i,rfl⟩:∃ i,wl=[i]:=ln1 hlen;rw [List.mem_singleton.mp hx];exact Nat.xor_lt_two_pow h (p2 i (hlt i (by simp)))
 | quarter=>rw [List.mem_singleton.mp hx]; exact h
 | back=>rw [List.mem_singleton.mp hx]; exact h
 | both=>
  obtain ⟨i,rfl⟩:∃ i,wl=[i]:=ln1 hlen;have hc:clr e.1 i <= e.1:=Nat.sub_le _ _
  rcases List.mem_cons.mp hx with rfl | hx
  ·exact Nat.lt_of_le_of_lt hc h
  ·rw [List.mem_singleton.mp hx];show clr e.1 i + 2 ^ i < 2 ^ n;rw [b0v];exact Nat.or_lt_two_pow h (p2 i (hlt i (by simp)))
 | wher=>
  obtain ⟨i,j,rfl⟩:∃ i j,wl=[i,j]:=ln2 hlen;rw [List.mem_singleton.mp hx];exact Nat.xor_lt_two_pow h (a6m (hlt j (by simp)))
 | swap=>
  obtain ⟨i,j,rfl⟩:∃ i j,wl=[i,j]:=ln2 hlen;have hij:i ≠ j:=by simp at hnd; exact hnd
  rw [List.mem_singleton.mp hx];show clr (clr e.1 i) j + (e.1.testBit j).toNat * 2 ^ i + (e.1.testBit i).toNat * 2 ^ j < 2 ^ n;rw [b2r hij];unfold ex;exact Nat.xor_lt_two_pow (Nat.xor_lt_two_pow h (a6m (hlt i (by simp)))) (a6m (hlt j (by simp)))
theorem deedF_lt {n:Nat}(ok:d.Ok n)(h:∀ e ∈ ws,e.1 < 2 ^ n):∀ e ∈ a4m d ws,e.1 < 2 ^ n:=by
 have key:∀ (es acc:Wh),(∀ e ∈ es,e.1 < 2 ^ n)->(∀ e ∈ acc,e.1 < 2 ^ n)->∀ e ∈ es.foldl (fun acc e=>adds acc (a3q d.k (d.w.getD 0 0) (d.w.getD 1 0) e)) acc,e.1 < 2 ^ n:=by
  intro es
  induction es with
  | nil=>intro acc _ h; exact h
  | cons x es ih=>intro acc h1 h2; exact ih _ (fun e he=>h1 e (List.mem_cons_of_mem _ he)) (adds_lt _ h2 (deedW_lt ok (h1 x (by simp))))
 exact key ws [] h (fun e he=>by cases he)
def pad (p q:Int × Int):Int × Int:=(p.1 + q.1,p.2 + q.2)
theorem pad_z (p:Int × Int):pad p (0,0) = p:=by unfold pad; simp
theorem z_pad (p:Int × Int):pad (0,0) p=p:=by unfold pad; simp
theorem b4j (p q r:Int × Int):pad (pad p q) r=pad p (pad q r):=by unfold pad; simp [Int.add_assoc]
theorem pad_comm (p q:Int × Int):pad p q=pad q p:=by unfold pad; simp [Int.add_comm]
theorem pad_four (p q r s:Int × Int):pad (pad p q) (pad r s) = pad (pad p r) (pad q s):=by
 unfold pad;refine Prod.ext ?_ ?_ <;> first | omega | (dsimp only; omega) | (dsimp only)
theorem b2w (o:Nat)(p q:Int × Int):a2h o (pad p q) = pad (a2h o p) (a2h o q):=by
 unfold a2h pad
 split
 ·rfl
 ·split
  ·refine Prod.ext ?_ ?_ <;> first | omega | (dsimp only; omega) | (dsimp only)
  ·split
   ·refine Prod.ext ?_ ?_ <;> first | omega | (dsimp only; omega) | (dsimp only)
   ·refine Prod.ext ?_ ?_ <;> first | omega | (dsimp only; omega) | (dsimp only)
theorem b4m (o:Nat):a2h o (0,0) = (0,0):=by
 unfold a2h;simp
def sm:Wh->Nat->Int × Int
 | [],_=>(0,0)
 | e :: ws,c=>pad (if e.1=c then e.2 else (0,0)) (sm ws c)
theorem sm_app (xs ys:Wh)(c:Nat):sm (xs ++ ys) c=pad (sm xs c) (sm ys c):=by
 induction xs with
 | nil=>rw [List.nil_append]; exact (z_pad _).symm
 | cons e xs ih=>show pad _ (sm (xs ++ ys) c) = pad (pad _ _) _; rw [ih,b4j]
theorem sm_none (h:∀ e ∈ ws,e.1 ≠ c):sm ws c=(0,0):=by
 induction ws with
 | nil=>rfl
 | cons e ws ih=>
  show pad _ (sm ws c) = _;rw [if_neg (h e (by simp)),z_pad];exact ih fun x hx=>h x (List.mem_cons_of_mem _ hx)
theorem wv_nil (c:Nat):wv [] c=(0,0):=rfl
theorem wv_cons (b:Nat)(p:Int × Int)(ws:Wh)(c:Nat):wv ((b,p) :: ws) c=if b=c then p else wv ws c:=by
 unfold wv
 by_cases e:b=c
 ·subst e;rw [b1x,if_pos rfl];rfl
 ·rw [a7e e,if_neg e]
theorem wv_sm (nd:(ws.map (·.1)).Nodup)(c:Nat):wv ws c=sm ws c:=by
 induction ws with
 | nil=>rfl
 | cons e ws ih=>
  obtain ⟨b,p⟩:=e;rw [List.map_cons,List.nodup_cons] at nd;rw [wv_cons];show _=pad (if b=c then p else (0,0)) (sm ws c)
  by_cases h:b=c
  ·subst h;rw [if_pos rfl,if_pos rfl,sm_none,pad_z];intro e he z;exact nd.1 (List.mem_map.mpr ⟨e,he,z⟩)
  ·rw [if_neg h,if_neg h,z_pad,ih nd.2]
theorem wat_app (ws:Wh)(b:Nat)(p:Int × Int)(c:Nat):wat (ws ++ [(b,p)]) c=(wat ws c).or (if b=c then some p else none):=by
 induction ws with
 | nil=>
  rw [List.nil_append]
  by_cases h:b=c
  ·subst h;rw [b1x,if_pos rfl];rfl
  ·rw [a7e h,if_neg h];rfl
 | cons e ws ih=>
  obtain ⟨a,q⟩:=e;rw [List.cons_append]
  by_cases h:a=c
  ·subst h;rw [b1x,b1x];rfl
  ·rw [a7e h,a7e h,ih]
theorem wat_repl (ws:Wh)(b:Nat)(p:Int × Int)(c:Nat):wat (ws.map fun e=>if e.1=b then (e.1,p) else e) c=if b=c then (wat ws c).map fun _=>p else wat ws c:=by
 induction ws with
 | nil=>
  split <;> rfl
 | cons e ws ih=>
  obtain ⟨a,q⟩:=e;rw [List.map_cons]
  by_cases h:a=c
  ·subst h
   by_cases h2:a=b
   ·subst h2;rw [if_pos rfl,b1x,if_pos rfl,b1x];rfl
   ·rw [if_neg h2,b1x,if_neg (Ne.symm h2),b1x]
  ·have e1:wat ((if (a,q).1=b then ((a,q).1,p) else (a,q)) :: ws.map fun e=>if e.1=b then (e.1,p) else e) c=wat (ws.map fun e=>if e.1=b then (e.1,p) else e) c:=by
    by_cases h2:a=b
    ·rw [if_pos h2];exact a7e h
    ·rw [if_neg h2];exact a7e h
   rw [e1,ih,a7e h]
theorem wat_any (h:ws.any (fun e=>decide (e.1=b)) = true):(wat ws b).isSome=true:=by
 obtain ⟨e,he,z⟩:=List.any_eq_true.mp h;exact wat_mem (List.mem_map.mpr ⟨e,he,of_decide_eq_true z⟩)
theorem wat_not (h:¬ ws.any (fun e=>decide (e.1=b)) = true):wat ws b=none:=by
 unfold wat;rw [List.find?_eq_none.mpr]
 ·rfl
 ·intro e he z;exact h (List.any_eq_true.mpr ⟨e,he,z⟩)
theorem wat_wput (ws:Wh)(b:Nat)(p:Int × Int)(c:Nat):wat (wput ws b p) c=if b=c then some p else wat ws c:=by
 unfold wput
 split
 ·rename_i h;rw [wat_repl]
  by_cases e:b=c
  ·subst e;rw [if_pos rfl,if_pos rfl];have:=wat_any h
   cases hw:wat ws b with
   | none=>rw [hw] at this; cases this
   | some q=>rfl
  ·rw [if_neg e,if_neg e]
 ·rename_i h;rw [wat_app]
  by_cases e:b=c
  ·subst e;rw [if_pos rfl,if_pos rfl,wat_not h];rfl
  ·rw [if_neg e,if_neg e,Option.or_none]
theorem wv_wput (ws:Wh)(b:Nat)(p:Int × Int)(c:Nat):wv (wput ws b p) c=if b=c then p else wv ws c:=by
 unfold wv;rw [wat_wput]
 split <;> rfl
theorem wv_wadd (ws:Wh)(b:Nat)(p:Int × Int)(c:Nat):wv (b5u ws b p) c=pad (wv ws c) (if b=c then p else (0,0)):=by
 unfold b5u;rw [wv_wput]
 by_cases e:b=c
 ·subst e;rw [if_pos rfl,if_pos rfl];rfl
 ·rw [if_neg e,if_neg e,pad_z]
theorem wv_adds (es:Wh)(c:Nat):∀ ws:Wh,wv (adds ws es) c=pad (wv ws c) (sm es c):=by
 induction es with
 | nil=>intro ws; exact (pad_z _).symm
 | cons e es ih=>
  intro ws;show wv (adds (b5u ws e.1 e.2) es) c=pad _ (pad _ _);rw [ih,wv_wadd,b4j]
theorem wv_deedF (d:Dd)(ws:Wh)(c:Nat):wv (a4m d ws) c=sm (ws.flatMap (a3q d.k (d.w.getD 0 0) (d.w.getD 1 0))) c:=by
 have key:∀ (es acc:Wh),wv (es.foldl (fun acc e=>adds acc (a3q d.k (d.w.getD 0 0) (d.w.getD 1 0) e)) acc) c=pad (wv acc c) (sm (es.flatMap (a3q d.k (d.w.getD 0 0) (d.w.getD 1 0))) c):=by
  intro es
  induction es with
  | nil=>intro acc; exact (pad_z _).symm
  | cons e es ih=>
   intro acc;rw [List.foldl_cons,ih,wv_adds,List.flatMap_cons,sm_app,b4j]
 rw [show a4m d ws=ws.foldl (fun acc e=>adds acc (a3q d.k (d.w.getD 0 0) (d.w.getD 1 0) e)) [] from rfl,key,wv_nil,z_pad]
def dF (k:DK)(i j:Nat)(f:Nat->Int × Int)(c:Nat):Int × Int:=
 match k with
 | .over=>f (c ^^^ 2 ^ i)
 | .quarter=>a2h (c.testBit i).toNat (f c)
 | .back=>a2h (3 * (c.testBit i).toNat) (f c)
 | .both=>pad (a2h (2 * (c.testBit i).toNat) (f c)) (f (c ^^^ 2 ^ i))
 | .wher=>f (c ^^^ (c.testBit i).toNat * 2 ^ j)
 | .swap=>f (ex c i j)
theorem dF_pad (k:DK)(i j:Nat)(f g:Nat->Int × Int)(c:Nat):dF k i j (fun b=>pad (f b) (g b)) c=pad (dF k i j f c) (dF k i j g c):=by
 cases k with
 | over=>rfl
 | quarter=>exact b2w _ _ _
 | back=>exact b2w _ _ _
 | both=>
  show pad (a2h _ (pad _ _)) (pad _ _) = pad (pad _ _) (pad _ _);rw [b2w,pad_four]
 | wher=>rfl
 | swap=>rfl
theorem dF_z (k:DK)(i j:Nat)(c:Nat):dF k i j (fun _=>(0,0)) c=(0,0):=by
 cases k with
 | over=>rfl
 | quarter=>exact b4m _
 | back=>exact b4m _
 | both=>show pad (a2h _ (0,0)) (0,0) = _; rw [b4m]; rfl
 | wher=>rfl
 | swap=>rfl
theorem a2m (b t:Nat):b ^^^ t ^^^ t=b:=by rw [Nat.xor_assoc,Nat.xor_self,Nat.xor_zero]
theorem a8p {t:Nat}:b ^^^ t=c ↔ b=c ^^^ t:=by
 constructor
 ·rintro rfl; exact (a2m b t).symm
 ·rintro rfl; exact a2m c t
theorem flip_tb (b i:Nat):(b ^^^ 2 ^ i).testBit i= !b.testBit i:=by
 rw [Nat.testBit_xor,Nat.testBit_two_pow_self];simp
theorem b4d (hij:i ≠ j)(o:Nat)(h:o <= 1):(b ^^^ o * 2 ^ j).testBit i=b.testBit i:=by
 rw [Nat.testBit_xor]
 have:(o * 2 ^ j).testBit i=false:=by
  match o,h with
  | 0,_=>simp
  | 1,_=>rw [Nat.one_mul,Nat.testBit_two_pow]; exact decide_eq_false (Ne.symm hij)
 rw [this,Bool.xor_false]
theorem dF_one (hij:k.n=2->i ≠ j)(b:Nat)(p:Int × Int)(c:Nat):dF k i j (fun x=>if b=x then p else (0,0)) c=sm (a3q k i j (b,p)) c:=by
 have s1:∀ (b':Nat) (p':Int × Int),sm [(b',p')] c=if b' = c then p' else (0,0):=fun b' p'=>pad_z _
 have tif:∀ (o:Nat) (q:Prop) [Decidable q],a2h o (if q then p else (0,0)) = if q then a2h o p else (0,0):=fun o q _=>by
  split
  ·rfl
  ·exact b4m o
 cases k with
 | over=>
  show (if b=c ^^^ 2 ^ i then p else (0,0)) = sm [(b ^^^ 2 ^ i,p)] c;rw [s1];simp only [a8p]
 | quarter=>
  show a2h (c.testBit i).toNat (if b=c then p else (0,0)) = sm [(b,a2h (b.testBit i).toNat p)] c;rw [s1,tif]
  by_cases h:b=c
  ·subst h; rfl
  ·rw [if_neg h,if_neg h]
 | back=>
  show a2h (3 * (c.testBit i).toNat) (if b=c then p else (0,0)) = sm [(b,a2h (3 * (b.testBit i).toNat) p)] c;rw [s1,tif]
  by_cases h:b=c
  ·subst h; rfl
  ·rw [if_neg h,if_neg h]
 | both=>
  show pad (a2h (2 * (c.testBit i).toNat) (if b=c then p else (0,0))) (if b=c ^^^ 2 ^ i then p else (0,0)) = pad (if clr b i=c then p else (0,0)) (sm [(clr b i + 2 ^ i,a2h (2 * (b.testBit i).toNat) p)] c);rw [s1,tif]
  cases hb:b.testBit i with
  | false=>
   have e1:clr b i=b:=by rw [clr_xor,hb]; simp
   have e2:clr b i + 2 ^ i=b ^^^ 2 ^ i:=by
    rw [b0v];apply Nat.eq_of_testBit_eq;intro q;rw [Nat.testBit_or,Nat.testBit_xor,Nat.testBit_two_pow]
    by_cases h:i=q
    ·subst h; simp [hb]
    ·simp [h]
   rw [e2,e1]
   have e3:(if b=c then a2h (2 * (c.testBit i).toNat) p else (0,0)) = if b=c then p else (0,0):=by
    by_cases h:b=c
    ·subst h; rw [if_pos rfl,if_pos rfl,hb]; rfl
    ·rw [if_neg h,if_neg h]
   rw [e3];simp only [a8p];rfl
  | true=>
   have e1:clr b i=b ^^^ 2 ^ i:=by rw [clr_xor,hb]; simp
   have e2:clr b i + 2 ^ i=b:=by
    rw [b0v];apply Nat.eq_of_testBit_eq;intro q;rw [Nat.testBit_or,Nat.testBit_two_pow]
    by_cases h:i=q
    ·subst h; simp [hb]
    ·simp [h]
   rw [e2,e1,pad_comm];simp only [a8p]
   congr 1
   by_cases h:b=c
   ·subst h; rw [if_pos rfl,if_pos rfl,hb]
   ·rw [if_neg h,if_neg h]
 | wher=>
  have h:=hij rfl;show (if b=c ^^^ (c.testBit i).toNat * 2 ^ j then p else (0,0)) = sm [(b ^^^ (b.testBit i).toNat * 2 ^ j,p)] c;rw [s1]
  have e:(b ^^^ (b.testBit i).toNat * 2 ^ j=c) ↔ (b=c ^^^ (c.testBit i).toNat * 2 ^ j):=by
   constructor
   ·rintro rfl;rw [b4d h _ (Bool.toNat_le _),a2m]
   ·rintro rfl;rw [b4d h _ (Bool.toNat_le _),a2m]
  simp only [e]
 | swap=>
  have h:=hij rfl;show (if b=ex c i j then p else (0,0)) = sm [(clr (clr b i) j + (b.testBit j).toNat * 2 ^ i + (b.testBit i).toNat * 2 ^ j,p)] c;rw [s1,b2r h]
  have e:(ex b i j=c) ↔ (b=ex c i j):=by
   constructor
   ·rintro rfl;exact (ex_two h b).symm
   ·rintro rfl;exact ex_two h c
  simp only [e]
theorem dF_congr {f g:Nat->Int × Int}(h:∀ b,f b=g b)(c:Nat):dF k i j f c=dF k i j g c:=by rw [funext h]
theorem sm_dF (hij:k.n=2->i ≠ j)(ws:Wh)(c:Nat):sm (ws.flatMap (a3q k i j)) c=dF k i j (sm ws) c:=by
 induction ws with
 | nil=>exact (dF_z _ _ _ _).symm
 | cons e ws ih=>
  obtain ⟨b,p⟩:=e;rw [List.flatMap_cons,sm_app,ih];show _=dF k i j (fun x=>pad (if b=x then p else (0,0)) (sm ws x)) c;rw [dF_pad,dF_one hij]
abbrev dfd (d:Dd)(f:Nat->Int × Int):Nat->Int × Int:=dF d.k (d.w.getD 0 0) (d.w.getD 1 0) f
theorem deedF_wv {n:Nat}(ok:d.Ok n)(nd:(ws.map (·.1)).Nodup):wv (a4m d ws) = dfd d (wv ws):=by
 funext c
 rw [wv_deedF,sm_dF fun h=>(ok.one.2.1 h).2];exact dF_congr (fun b=>(wv_sm nd b).symm) c
def rF (r:Row)(n:Nat)(f:Nat->Int × Int)(c:Nat):Int × Int:=a2h (qq r (c ^^^ r.x) n) (f (c ^^^ r.x))
theorem sm_rowE (r:Row)(n:Nat)(ws:Wh)(c:Nat):sm (ws.map (rowE r n)) c=rF r n (sm ws) c:=by
 induction ws with
 | nil=>exact (b4m _).symm
 | cons e ws ih=>
  obtain ⟨b,p⟩:=e;rw [List.map_cons];show pad (if b ^^^ r.x=c then a2h (qq r b n) p else (0,0)) (sm (ws.map (rowE r n)) c) = a2h (qq r (c ^^^ r.x) n) (pad (if b=c ^^^ r.x then p else (0,0)) (sm ws (c ^^^ r.x)));rw [ih,b2w];refine congrArg (fun z=>pad z _) ?_
  by_cases h:b ^^^ r.x=c
  ·rw [if_pos h,if_pos (a8p.mp h),<- a8p.mp h]
  ·rw [if_neg h,if_neg fun z=>h (a8p.mpr z),b4m]
theorem sm_rev (ws:Wh)(c:Nat):sm ws.reverse c=sm ws c:=by
 induction ws with
 | nil=>rfl
 | cons e ws ih=>
  rw [List.reverse_cons,sm_app,ih,pad_comm];show pad (pad _ (0,0)) _=pad _ _;rw [pad_z]
theorem dF_rF {n:Nat}(ok:r.Ok n)(hd:d.Ok n)(ws:Wh):dfd d (rF r n (sm ws)) = rF (act d r) n (dfd d (sm ws)):=by
 funext c
 have hij:d.k.n=2->d.w.getD 0 0 ≠ d.w.getD 1 0:=fun h=>(hd.one.2.1 h).2
 have e1:dfd d (rF r n (sm ws)) c=sm ((ws.map (rowE r n)).flatMap (a3q d.k (d.w.getD 0 0) (d.w.getD 1 0))) c:=by
  rw [sm_dF hij];exact dF_congr (fun b=>(sm_rowE r n ws b).symm) c
 have e2:rF (act d r) n (dfd d (sm ws)) c=sm ((ws.flatMap (a3q d.k (d.w.getD 0 0) (d.w.getD 1 0))).map (rowE (act d r) n)) c:=by
  rw [sm_rowE];unfold rF;rw [sm_dF hij]
 rw [e1,e2];clear e1 e2
 induction ws with
 | nil=>rfl
 | cons e ws ih=>
  obtain ⟨b,p⟩:=e;rw [List.map_cons,List.flatMap_cons,List.flatMap_cons,List.map_append,sm_app,sm_app,ih];refine congrArg (fun z=>pad z _) ?_
  rcases core (b:=b) (k:=d.k) ok hd.one.1 hd.one.2.1 p with h | h
  ·rw [h]; rfl
  ·rw [h,sm_rev]; rfl
def nq (p:Int × Int):Int:=p.1 * p.1 + p.2 * p.2
theorem nq_nn (p:Int × Int):0 <= nq p:=by
 unfold nq;have h1:0 <= p.1 * p.1:=by rcases Int.le_total 0 p.1 with h | h; exact Int.mul_nonneg h h; exact Int.mul_nonneg_of_nonpos_of_nonpos h h
 have h2:0 <= p.2 * p.2:=by rcases Int.le_total 0 p.2 with h | h; exact Int.mul_nonneg h h; exact Int.mul_nonneg_of_nonpos_of_nonpos h h
 omega
theorem nq_turn (o:Nat)(p:Int × Int):nq (a2h o p) = nq p:=by
 unfold a2h nq
 split
 ·rfl
 ·split
  ·dsimp only; rw [Int.neg_mul_neg]; omega
  ·split
   ·dsimp only; rw [Int.neg_mul_neg,Int.neg_mul_neg]
   ·dsimp only; rw [Int.neg_mul_neg]; omega
def sumZ:List Int->Int
 | []=>0
 | x :: l=>x + sumZ l
theorem sumZ_perm {l m:List Int}(h:l.Perm m):sumZ l=sumZ m:=by
 induction h with
 | nil=>rfl
 | cons x _ ih=>show _ + _=_ + _; rw [ih]
 | swap x y l=>show _ + (_ + _) = _ + (_ + _); omega
 | trans _ _ h1 h2=>rw [h1,h2]
theorem sumZ_add {α:Type}(l:List α)(f g:α->Int):sumZ (l.map fun x=>f x + g x) = sumZ (l.map f) + sumZ (l.map g):=by
 induction l with
 | nil=>rfl
 | cons x l ih=>rw [List.map_cons,List.map_cons,List.map_cons]; show _ + _=(_ + _) + (_ + _); rw [ih]; omega
theorem sumZ_mul {α:Type}(l:List α)(c:Int)(f:α->Int):sumZ (l.map fun x=>c * f x) = c * sumZ (l.map f):=by
 induction l with
 | nil=>simp [sumZ]
 | cons x l ih=>rw [List.map_cons,List.map_cons]; show _ + _=_ * (_ + _); rw [ih,Int.mul_add]
theorem perm_of {l m:List Nat}(nl:l.Nodup)(nm:m.Nodup)(h:∀ x,x ∈ l ↔ x ∈ m):l.Perm m:=(List.perm_ext_iff_of_nodup nl nm).mpr h
theorem sumZ_zero {α:Type}{l:List α}{f:α->Int}(h:∀ x ∈ l,f x=0):sumZ (l.map f) = 0:=by
 induction l with
 | nil=>rfl
 | cons x l ih=>rw [List.map_cons]; show _ + _=_; rw [h x (by simp),ih fun y hy=>h y (List.mem_cons_of_mem _ hy)]; rfl
def wS (n:Nat)(F:Nat->Int):Int:=sumZ ((List.range (2 ^ n)).map F)
theorem wS_inv {n:Nat}(F:Nat->Int)(s:Nat->Nat)(hs:∀ c,s (s c) = c)(hl:∀ c,c < 2 ^ n->s c < 2 ^ n):wS n (fun c=>F (s c)) = wS n F:=by
 unfold wS;have e:(List.range (2 ^ n)).map (fun c=>F (s c)) = ((List.range (2 ^ n)).map s).map F:=by rw [List.map_map]; rfl
 rw [e];refine sumZ_perm (List.Perm.map _ (perm_of ?_ List.nodup_range fun x=>?_))
 ·exact List.pairwise_map.mpr (List.Pairwise.imp (fun {a b} h z=>h (by rw [<- hs a,z,hs])) List.nodup_range)
 ·rw [List.mem_map,List.mem_range]
  constructor
  ·rintro ⟨c,hc,rfl⟩;exact hl c (List.mem_range.mp hc)
  ·intro hx;exact ⟨s x,List.mem_range.mpr (hl x hx),hs x⟩
theorem b7g {n:Nat}{F G:Nat->Int}(h:∀ c,F c=G c):wS n F=wS n G:=by rw [funext h]
theorem wS_add (n:Nat)(F G:Nat->Int):wS n (fun c=>F c + G c) = wS n F + wS n G:=sumZ_add _ _ _
theorem wS_mul (n:Nat)(k:Int)(F:Nat->Int):wS n (fun c=>k * F c) = k * wS n F:=sumZ_mul _ _ _
theorem wS_inv2 {n:Nat}{F:Nat->Int}(hi:i < n):wS n (fun c=>F (c ^^^ 2 ^ i)) = wS n F:=
 wS_inv F (· ^^^ 2 ^ i) (fun c=>a2m c _) fun c hc=>Nat.xor_lt_two_pow hc (Nat.pow_lt_pow_right (by decide) hi)
abbrev wW (n:Nat)(f:Nat->Int × Int):Int:=wS n fun c=>nq (f c)
theorem nq_pad_turn (o:Nat)(p q:Int × Int)(h:o <= 1):nq (pad (a2h (2 * o) p) q) + nq (pad (a2h (2 * (1 - o)) q) p) = 2 * (nq p + nq q):=by
 have h0:∀ x:Int × Int,a2h (2 * 0) x=x:=fun x=>rfl;have h2:∀ x:Int × Int,a2h (2 * 1) x=(-x.1,-x.2):=fun x=>rfl
 have key:∀ a b:Int,(a + b) * (a + b) + (-b + a) * (-b + a) = 2 * (a * a + b * b):=by
  intro a b
  have e:(a + b) * (a + b) + (-b + a) * (-b + a) = a * a + a * a + (b * b + b * b):=by
   simp only [Int.add_mul,Int.mul_add,Int.neg_mul,Int.mul_neg,Int.neg_neg,Int.mul_comm b a];omega
  omega
 match o,h with
 | 0,_=>
  rw [h0,h2];show (p.1 + q.1) * (p.1 + q.1) + (p.2 + q.2) * (p.2 + q.2) + ((-q.1 + p.1) * (-q.1 + p.1) + (-q.2 + p.2) * (-q.2 + p.2)) = 2 * (p.1 * p.1 + p.2 * p.2 + (q.1 * q.1 + q.2 * q.2));have k1:=key p.1 q.1;have k2:=key p.2 q.2;omega
 | 1,_=>
  rw [h0,h2];show (-p.1 + q.1) * (-p.1 + q.1) + (-p.2 + q.2) * (-p.2 + q.2) + ((q.1 + p.1) * (q.1 + p.1) + (q.2 + p.2) * (q.2 + p.2)) = 2 * (p.1 * p.1 + p.2 * p.2 + (q.1 * q.1 + q.2 * q.2));have k1:=key q.1 p.1;have k2:=key q.2 p.2;omega
def DK.fac:DK->Int
 | .both=>2
 | _=>1
theorem DK.fac_pos (k:DK):0 < k.fac:=by cases k <;> decide
theorem wW_dF {n:Nat}(hi:i < n)(hj:k.n=2->j < n/\i ≠ j)(f:Nat->Int × Int):wW n (dF k i j f) = k.fac * wW n f:=by
 cases k with
 | over=>rw [show (DK.fac .over) = 1 from rfl,Int.one_mul]; exact wS_inv2 (F:=fun c=>nq (f c)) hi
 | quarter=>rw [show (DK.fac .quarter) = 1 from rfl,Int.one_mul]; exact b7g fun c=>nq_turn _ _
 | back=>rw [show (DK.fac .back) = 1 from rfl,Int.one_mul]; exact b7g fun c=>nq_turn _ _
 | both=>
  have e1:=wS_inv2 (F:=fun c=>nq (dF .both i j f c)) hi;have e2:=wS_inv2 (F:=fun c=>nq (f c)) hi
  have e3:∀ c,nq (dF .both i j f c) + nq (dF .both i j f (c ^^^ 2 ^ i)) = 2 * (nq (f c) + nq (f (c ^^^ 2 ^ i))):=by
   intro c;have:=nq_pad_turn (c.testBit i).toNat (f c) (f (c ^^^ 2 ^ i)) (Bool.toNat_le _);have eo:((c ^^^ 2 ^ i).testBit i).toNat=1 - (c.testBit i).toNat:=by rw [flip_tb]; cases c.testBit i <;> rfl
   show nq (pad _ _) + nq (pad (a2h (2 * ((c ^^^ 2 ^ i).testBit i).toNat) (f (c ^^^ 2 ^ i))) (f (c ^^^ 2 ^ i ^^^ 2 ^ i))) = _;rw [eo,a2m];exact this
  have e4:=b7g (n:=n) e3;rw [wS_add,wS_mul,wS_add] at e4;show wW n _=2 * wW n f;dsimp only [wW] at e1 e2 e4 ⊢;omega
 | wher=>
  rw [show (DK.fac .wher) = 1 from rfl,Int.one_mul];obtain ⟨hj,hij⟩:=hj rfl;refine wS_inv (fun c=>nq (f c)) (fun c=>c ^^^ (c.testBit i).toNat * 2 ^ j) (fun c=>?_) fun c hc=>?_
  ·rw [b4d hij _ (Bool.toNat_le _),a2m]
  ·refine Nat.xor_lt_two_pow hc ?_;have:=Nat.pow_lt_pow_right (a:=2) (by decide) hj;cases c.testBit i
   ·simp; exact Nat.two_pow_pos n
   ·simpa using this
 | swap=>
  rw [show (DK.fac .swap) = 1 from rfl,Int.one_mul];obtain ⟨hj,hij⟩:=hj rfl;refine wS_inv (fun c=>nq (f c)) (fun c=>ex c i j) (fun c=>ex_two hij c) fun c hc=>?_;unfold ex;have h1:=Nat.pow_lt_pow_right (a:=2) (by decide) hj;have h2:=Nat.pow_lt_pow_right (a:=2) (by decide) hi
  have b:∀ (x:Bool) (k:Nat),2 ^ k < 2 ^ n->x.toNat * 2 ^ k < 2 ^ n:=by
   intro x k hk;cases x
   ·simp; exact Nat.two_pow_pos n
   ·simpa using hk
  exact Nat.xor_lt_two_pow (Nat.xor_lt_two_pow hc (b _ _ h2)) (b _ _ h1)
theorem start_wv (c:Nat):wv [(0,((1:Int),(0:Int)))] c=if 0=c then (1,0) else (0,0):=wv_cons _ _ _ _
theorem cnt_no:∀ n,cnt (fun _=>false) n=0
 | 0=>rfl
 | n + 1=>by unfold cnt; rw [cnt_no n]; rfl
theorem stab_deed {n:Nat}(ok:r.Ok n)(hd:d.Ok n)(h:rF r n (sm ws) = sm ws):rF (act d r) n (dfd d (sm ws)) = dfd d (sm ws):=by
 rw [<- dF_rF ok hd,h]
theorem stab_start (n z:Nat):rF ⟨0,0,z⟩ n (wv [(0,(1,0))]) = wv [(0,(1,0))]:=by
 funext c
 unfold rF;show a2h (qq ⟨0,0,z⟩ (c ^^^ 0) n) (wv _ (c ^^^ 0)) = _;rw [Nat.xor_zero]
 by_cases hc:0=c
 ·subst hc;refine Eq.trans (a1b (b:=0) ?_ _) rfl;unfold qq
  have e1:cnt (fun i=>z.testBit i && (0:Nat).testBit i) n=0:=by
   rw [a4c (q:=fun _=>false) fun i _=>by simp];exact cnt_no n
  have e2:cnt (fun i=>(0:Nat).testBit i && z.testBit i) n=0:=by
   rw [a4c (q:=fun _=>false) fun i _=>by simp];exact cnt_no n
  show (2 * 0 + 2 * cnt (fun i=>z.testBit i && (0:Nat).testBit i) n + cnt (fun i=>(0:Nat).testBit i && z.testBit i) n) % 4=0;rw [e1,e2]
 ·rw [start_wv,if_neg hc,b4m]
theorem trn_qq {n:Nat}(ok:r.Ok n)(b:Nat):trn r b=qq r b n:=by
 unfold trn qq;rw [b1b n (r.z &&& b) (Nat.lt_of_le_of_lt Nat.and_le_left ok.z),b1b n (r.x &&& r.z) (Nat.lt_of_le_of_lt Nat.and_le_left ok.x)];rw [a4c (p:=(r.z &&& b).testBit) (q:=fun i=>r.z.testBit i && b.testBit i) fun i _=>Nat.testBit_and _ _ _,a4c (p:=(r.x &&& r.z).testBit) (q:=fun i=>r.x.testBit i && r.z.testBit i) fun i _=>Nat.testBit_and _ _ _]
def Bn (B:Nat)(f:Nat->Int × Int):Prop:=∀ c,(f c).1.natAbs <= B/\(f c).2.natAbs <= B
theorem turn_le (q:Nat)(h:p.1.natAbs <= B/\p.2.natAbs <= B):(a2h q p).1.natAbs <= B/\(a2h q p).2.natAbs <= B:=by
 have:=turn_abs q (p:=p) (N:=B + 1) ⟨by omega,by omega⟩;omega
theorem pad_le {q:Int × Int}{A:Nat}(h:p.1.natAbs <= A/\p.2.natAbs <= A)(h2:q.1.natAbs <= B/\q.2.natAbs <= B):(pad p q).1.natAbs <= A + B/\(pad p q).2.natAbs <= A + B:=by
 unfold pad;dsimp only;omega
theorem Bn.dF {B:Nat}{f:Nat->Int × Int}(h:Bn B f)(k:DK)(i j:Nat):Bn (2 * B) (Tw.dF k i j f):=by
 have one:∀ p:Int × Int,p.1.natAbs <= B/\p.2.natAbs <= B->p.1.natAbs <= 2 * B/\p.2.natAbs <= 2 * B:=fun p h=>by omega
 intro c
 cases k with
 | over=>exact one _ (h _)
 | quarter=>exact one _ (turn_le _ (h _))
 | back=>exact one _ (turn_le _ (h _))
 | both=>
  have:=pad_le (turn_le (2 * (c.testBit i).toNat) (h c)) (h (c ^^^ 2 ^ i));rw [<- Nat.two_mul] at this;exact this
 | wher=>exact one _ (h _)
 | swap=>exact one _ (h _)
theorem Bn.start:Bn 1 (wv [(0,(1,0))]):=fun c=>by
 rw [start_wv]
 split <;> decide
end Tw
namespace Tw
variable {m:Nat}
section
variable {R:Type} [Lean.Grind.CommRing R]
def lc:List R->List (Nat->R)->Nat->R
 | c :: cs,v :: vs,j=>c * v j + lc cs vs j
 | [],_,_=>0
 | _ :: _,[],_=>0
theorem lc_app:∀ {ca:List R} {a:List (Nat->R)} {cb:List R} {b:List (Nat->R)} (j:Nat),ca.length=a.length->lc (ca ++ cb) (a ++ b) j=lc ca a j + lc cb b j
 | [],[],cb,b,j,_=>by show lc cb b j=0 + _; grind
 | c :: ca,v :: a,cb,b,j,h=>by
  show c * v j + lc (ca ++ cb) (a ++ b) j=c * v j + lc ca a j + _;rw [lc_app j (by simpa using h)]; grind
theorem lc_zero:∀ {cs:List R} {vs:List (Nat->R)} {j:Nat},(∀ v ∈ vs,v j=0)->lc cs vs j=0
 | [],_,_,_=>rfl
 | _ :: _,[],_,_=>rfl
 | c :: cs,v :: vs,j,h=>by
  show c * v j + lc cs vs j=0;rw [h v (by simp),lc_zero fun v hv=>h v (List.mem_cons_of_mem _ hv)]; grind
theorem b7k (d:R):∀ (cs:List R) (vs:List (Nat->R)) (j:Nat),lc (cs.map (· * d)) vs j=d * lc cs vs j
 | [],_,_=>by show (0:R) = d * 0; grind
 | _ :: _,[],_=>by show (0:R) = d * 0; grind
 | c :: cs,v :: vs,j=>by
  show c * d * v j + lc (cs.map (· * d)) vs j=d * (c * v j + lc cs vs j)
  rw [b7k d cs vs j]; grind
theorem lc_clear (x:R)(v:Nat->R)(m:Nat):∀ (cs:List R) (vs:List (Nat->R)) (l:Nat),lc cs (vs.map fun w l=>x * w l - w m * v l) l=x * lc cs vs l - lc cs vs m * v l
 | [],_,_=>by show (0:R) = x * 0 - 0 * _; grind
 | _ :: _,[],_=>by show (0:R) = x * 0 - 0 * _; grind
 | c :: cs,w :: vs,l=>by
  show c * (x * w l - w m * v l) + lc cs (vs.map fun w l=>x * w l - w m * v l) l=x * (c * w l + lc cs vs l) - (c * w m + lc cs vs m) * v l;rw [lc_clear x v m cs vs l]; grind
def b5b (R:Type) [Lean.Grind.CommRing R]:Prop:=(1:R) ≠ 0/\∀ a b:R,a * b=0->a=0\/b=0
theorem b5b.mul {a b:R}(nd:b5b R)(ha:a ≠ 0)(hb:b ≠ 0):a * b ≠ 0:=fun z=>(nd.2 a b z).elim ha hb
theorem b6t (nd:b5b R):∀ (m:Nat) (vs:List (Nat->R)),m < vs.length->∃ cs:List R,cs.length=vs.length/\(∃ c ∈ cs,c ≠ 0)/\∀ l,l < m->lc cs vs l=0
 | 0,[],h=>absurd h (Nat.lt_irrefl 0)
 | 0,v :: vs,_=>⟨1 :: vs.map fun _=>0,by simp,⟨1,by simp,nd.1⟩,fun l hl=>absurd hl (Nat.not_lt_zero _)⟩
 | m + 1,vs,h=>by
  by_cases c:∀ v ∈ vs,v m=0
  ·obtain ⟨cs,h1,h2,h3⟩:=b6t nd m vs (by omega);refine ⟨cs,h1,h2,fun l hl=>?_⟩
   rcases Nat.lt_or_ge l m with x | x
   ·exact h3 l x
   ·obtain rfl:l=m:=by omega
    exact lc_zero c
  ·obtain ⟨v,hv⟩:=Classical.not_forall.1 c;obtain ⟨hm,hz⟩:=Classical.not_imp.1 hv;obtain ⟨a,b,rfl⟩:=List.append_of_mem hm;obtain ⟨cs,h1,⟨x,hx,h2⟩,h3⟩:=b6t nd m ((a ++ b).map fun w l=>v m * w l - w m * v l) (by simp at h ⊢; omega);rw [List.length_map,List.length_append] at h1;have hcs:cs=cs.take a.length ++ cs.drop a.length:=(List.take_append_drop ..).symm;have l1:(cs.take a.length).length=a.length:=by rw [List.length_take]; omega
   refine ⟨(cs.take a.length).map (· * v m) ++ (0 - lc cs (a ++ b) m) :: (cs.drop a.length).map (· * v m),by simp; omega,⟨x * v m,?_,nd.mul h2 hz⟩,fun l hl=>?_⟩
   ·rw [hcs] at hx
    rcases List.mem_append.1 hx with hx | hx
    ·exact List.mem_append_left _ (List.mem_map.2 ⟨x,hx,rfl⟩)
    ·exact List.mem_append_right _ (List.mem_cons_of_mem _ (List.mem_map.2 ⟨x,hx,rfl⟩))
   ·rw [lc_app l (by rw [List.length_map,l1])];show _ + ((0 - lc cs (a ++ b) m) * v l + lc _ _ l) = 0;rw [b7k,b7k]
    have e:∀ j,lc cs (a ++ b) j=lc (cs.take a.length) a j + lc (cs.drop a.length) b j:=fun j=>by
     conv=>lhs; rw [hcs]
     exact lc_app j l1
    rcases Nat.lt_or_ge l m with y | y
    ·have:=h3 l y;rw [lc_clear] at this;have e1:=e l
     grind
    ·obtain rfl:l=m:=by omega
     have e1:=e l
     grind
inductive Sg (S:(Nat->R)->Prop):(Nat->R)->Prop
 | z:Sg S fun _=>0
 | a {s v:Nat->R} (c:R):S s->Sg S v->Sg S fun j=>c * s j + v j
theorem Sg.mem {S:(Nat->R)->Prop}{s:Nat->R}(h:S s):Sg S s:=by
 have:=Sg.a 1 h Sg.z
 rwa [show (fun j=>1 * s j + 0) = s from funext fun j=>by grind] at this
theorem Sg.add {S:(Nat->R)->Prop}{u v:Nat->R}(hu:Sg S u)(hv:Sg S v):Sg S fun j=>u j + v j:=by
 induction hu with
 | z=>rwa [show (fun j=>0 + v j) = v from funext fun j=>by grind]
 | a c hs hq ih=>
  rename_i s w;have:=Sg.a c hs ih
  rwa [show (fun j=>c * s j + (w j + v j)) = fun j=>c * s j + w j + v j from funext fun j=>by grind] at this
theorem Sg.mul {S:(Nat->R)->Prop}{v:Nat->R}(d:R)(hv:Sg S v):Sg S fun j=>d * v j:=by
 induction hv with
 | z=>rw [show (fun _:Nat=>d * 0) = fun _=>0 from funext fun j=>by grind]; exact Sg.z
 | a c hs hq ih=>
  rename_i s w;have:=Sg.a (d * c) hs ih
  rwa [show (fun j=>d * c * s j + d * w j) = fun j=>d * (c * s j + w j) from funext fun j=>by grind] at this
theorem Sg.trans {S T:(Nat->R)->Prop}{v:Nat->R}(h:∀ s,S s->Sg T s)(hv:Sg S v):Sg T v:=by
 induction hv with
 | z=>exact Sg.z
 | a c hs hq ih=>exact ((h _ hs).mul c).add ih
def Sq (S:(Nat->R)->Prop)(v:Nat->R):Prop:=∃ d:R,d ≠ 0/\Sg S fun j=>d * v j
theorem Sg.sq {S:(Nat->R)->Prop}{v:Nat->R}(nd:b5b R)(h:Sg S v):Sq S v:=⟨1,nd.1,by rwa [show (fun j=>1 * v j) = v from funext fun j=>by grind]⟩
theorem Sq.trans {S T:(Nat->R)->Prop}{v:Nat->R}(nd:b5b R)(h:∀ s,S s->Sq T s)(hv:Sq S v):Sq T v:=by
 have key:∀ w,Sg S w->Sq T w:=by
  intro w hw
  induction hw with
  | z=>exact Sg.z.sq nd
  | a c hs hq ih=>
   rename_i s u;obtain ⟨d,d0,hd⟩:=h s hs;obtain ⟨e,e0,he⟩:=ih;refine ⟨d * e,nd.mul d0 e0,?_⟩;have:=(hd.mul (c * e)).add (he.mul d)
   rwa [show (fun j=>c * e * (d * s j) + d * (e * u j)) = fun j=>d * e * (c * s j + u j) from funext fun j=>by grind] at this
 obtain ⟨d,d0,hd⟩:=hv;obtain ⟨e,e0,he⟩:=key _ hd;refine ⟨e * d,nd.mul e0 d0,?_⟩
 rwa [show (fun j=>e * d * v j) = fun j=>e * (d * v j) from funext fun j=>by grind]
def lf (c:Nat->R):List (Nat->R)->Nat->R
 | [],_=>0
 | w :: ws,j=>c 0 * w j + lf (fun l=>c (l + 1)) ws j
theorem lf_lin (x:R):∀ (ws:List (Nat->R)) (c d:Nat->R) (j:Nat),lf (fun l=>x * c l + d l) ws j=x * lf c ws j + lf d ws j
 | [],_,_,_=>by show (0:R) = x * 0 + 0; grind
 | w :: ws,c,d,j=>by
  show (x * c 0 + d 0) * w j + lf (fun l=>x * c (l + 1) + d (l + 1)) ws j=x * (c 0 * w j + _) + (d 0 * w j + _);rw [lf_lin x ws (fun l=>c (l + 1)) (fun l=>d (l + 1)) j]; grind
theorem b1g:∀ {ws:List (Nat->R)} {c:Nat->R} {j:Nat},(∀ l,l < ws.length->c l=0)->lf c ws j=0
 | [],_,_,_=>rfl
 | w :: ws,c,j,h=>by
  show c 0 * w j + lf (fun l=>c (l + 1)) ws j=0;rw [h 0 (by simp),b1g fun l hl=>h (l + 1) (by simpa using hl)]; grind
theorem lf_one:∀ {ws:List (Nat->R)} {i:Nat} {s:Nat->R} (j:Nat),ws[i]? = some s->lf (fun l=>if l=i then 1 else 0) ws j=s j
 | w :: ws,0,s,j,h=>by
  obtain rfl:w=s:=Option.some.inj h;show (if 0=0 then (1:R) else 0) * w j + lf (fun l=>if l + 1=0 then 1 else 0) ws j=w j;rw [b1g fun l _=>if_neg (by omega),if_pos rfl]; grind
 | w :: ws,i + 1,s,j,h=>by
  show (if 0=i + 1 then (1:R) else 0) * w j + lf (fun l=>if l + 1=i + 1 then 1 else 0) ws j=s j
  have e:(fun l=>if l + 1=i + 1 then (1:R) else 0) = fun l=>if l=i then 1 else 0:=funext fun l=>by
   by_cases c:l=i
   ·rw [if_pos c,if_pos (by omega)]
   ·rw [if_neg c,if_neg (by omega)]
  rw [e,lf_one j (show ws[i]? = some s from h),if_neg (by omega)]; grind
theorem Sg.coord {ws:List (Nat->R)}{v:Nat->R}(h:Sg (· ∈ ws) v):∃ c:Nat->R,∀ j,v j=lf c ws j:=by
 induction h with
 | z=>exact ⟨fun _=>0,fun j=>(b1g fun _ _=>rfl).symm⟩
 | a c hs hq ih=>
  rename_i s w;obtain ⟨d,hd⟩:=ih;obtain ⟨i,hi⟩:=List.getElem?_of_mem hs;exact ⟨fun l=>c * (if l=i then 1 else 0) + d l,fun j=>by rw [lf_lin,lf_one j hi,<- hd j]⟩
theorem lf_lc:∀ (xs:List R) (cs:List (Nat->R)) (ws:List (Nat->R)) (j:Nat),lf (fun l=>lc xs cs l) ws j=lc xs (cs.map fun c j=>lf c ws j) j
 | [],_,ws,j=>b1g fun _ _=>rfl
 | _ :: _,[],ws,j=>b1g fun _ _=>rfl
 | x :: xs,c :: cs,ws,j=>by
  show lf (fun l=>x * c l + lc xs cs l) ws j=x * lf c ws j + lc xs (cs.map fun c j=>lf c ws j) j;rw [lf_lin,lf_lc xs cs ws j]
def Lin (us:List (Nat->R)):Prop:=∀ xs:List R,xs.length=us.length->(∀ j,lc xs us j=0)->∀ x ∈ xs,x=0
theorem Lin.le (nd:b5b R){us ws:List (Nat->R)}(h:Lin us)(hs:∀ u ∈ us,Sq (· ∈ ws) u):us.length <= ws.length:=by
 rcases Nat.lt_or_ge ws.length us.length with c | c
 ·exfalso
  have ex:∀ l:List (Nat->R),(∀ u ∈ l,Sq (· ∈ ws) u)->∃ (ds:List R) (cs:List (Nat->R)),ds.length=l.length/\cs.length=l.length/\(∀ d ∈ ds,d ≠ 0)/\∀ (xs:List R) (j:Nat),lc xs (cs.map fun c j=>lf c ws j) j=lc (xs.zipWith (· * ·) ds) l j:=by
   intro l
   induction l with
   | nil=>intro _; exact ⟨[],[],rfl,rfl,fun _ z=>(nomatch z),fun xs j=>by cases xs <;> rfl⟩
   | cons u l ih=>
    intro hl;obtain ⟨d,d0,hd⟩:=hl u (by simp);obtain ⟨k,hk⟩:=hd.coord;obtain ⟨ds,cs,e1,e2,e3,e4⟩:=ih fun u hu=>hl u (List.mem_cons_of_mem _ hu);refine ⟨d :: ds,k :: cs,by simp [e1],by simp [e2],fun y hy=>?_,fun xs j=>?_⟩
    ·rcases List.mem_cons.1 hy with rfl | hy
     ·exact d0
     ·exact e3 y hy
    ·cases xs with
     | nil=>rfl
     | cons x xs=>
      show x * lf k ws j + lc xs _ j=x * d * u j + lc (xs.zipWith (· * ·) ds) l j
      rw [e4,<- hk j]; grind
  obtain ⟨ds,cs,e1,e2,e3,e4⟩:=ex us hs;obtain ⟨xs,h1,⟨x,hx,h2⟩,h3⟩:=b6t nd ws.length cs (by omega)
  have z:∀ j,lc (xs.zipWith (· * ·) ds) us j=0:=fun j=>by
   rw [<- e4,<- lf_lc];exact b1g h3
  have y:=h _ (by rw [List.length_zipWith]; omega) z;obtain ⟨i,hi⟩:=List.getElem?_of_mem hx;have il:=(List.getElem?_eq_some_iff.1 hi).1;have hd:ds[i]? = some ds[i]:=List.getElem?_eq_getElem (by omega);have:=y (x * ds[i]) (List.mem_of_getElem? (i:=i) (by rw [List.getElem?_zipWith,hi,hd]));exact (nd.2 _ _ this).elim h2 (e3 _ (List.getElem_mem _))
 ·exact c
def Ech (m:Nat):List (Nat->R)->Prop
 | []=>True
 | p :: P=>(∃ q,q < m/\p q ≠ 0/\∀ p' ∈ P,p' q=0)/\Ech m P
theorem Ech.lin (nd:b5b R){m:Nat}:∀ {P:List (Nat->R)},Ech m P->Lin P
 | [],_=>fun xs h _ x hx=>by
  cases xs with
  | nil=>cases hx
  | cons _ _=>cases h
 | p :: P,⟨⟨q,_,h1,h2⟩,h3⟩=>fun xs h hz=>by
  cases xs with
  | nil=>cases h
  | cons x xs=>
   have e:x * p q + lc xs P q=0:=hz q;rw [lc_zero h2] at e;have x0:x=0:=(nd.2 x (p q) (by grind)).elim id fun z=>absurd z h1;intro y hy
   rcases List.mem_cons.1 hy with rfl | hy
   ·exact x0
   ·refine Ech.lin nd h3 xs (by simpa using h) (fun j=>?_) y hy;have:x * p j + lc xs P j=0:=hz j;rw [x0] at this
    grind
theorem Ech.snoc {m:Nat}{p:Nat->R}(hp:∀ j,j < m->p j=0)(h0:p m ≠ 0):∀ {P:List (Nat->R)},Ech m P->Ech (m + 1) (P ++ [p])
 | [],_=>⟨⟨m,by omega,h0,fun _ z=>(nomatch z)⟩,trivial⟩
 | r :: P,⟨⟨q,h1,h2,h3⟩,h4⟩=>⟨⟨q,by omega,h2,fun p' hp'=>by
   rcases List.mem_append.1 hp' with z | z
   ·exact h3 p' z
   ·rw [List.mem_singleton.1 z]; exact hp q h1⟩,Ech.snoc hp h0 h4⟩
theorem Ech.up {m k:Nat}(hk:m <= k):∀ {P:List (Nat->R)},Ech m P->Ech k P
 | [],_=>trivial
 | _ :: _,⟨⟨q,h1,h2,h3⟩,h4⟩=>⟨⟨q,by omega,h2,h3⟩,Ech.up hk h4⟩
structure Clr (O:(Nat->R)->Prop)(m:Nat)(P a2e:List (Nat->R)):Prop where
 p:∀ v ∈ P,Sg O v
 r:∀ v ∈ a2e,Sg O v
 o:∀ v,O v->Sq (fun w=>w ∈ P\/w ∈ a2e) v
 z:∀ v ∈ a2e,∀ j,j < m->v j=0
 e:Ech m P
theorem Clr.start (nd:b5b R)(vs:List (Nat->R)):Clr (· ∈ vs) 0 [] vs where
 p:=fun _ z=>(nomatch z)
 r:=fun v hv=>Sg.mem hv
 o:=fun v hv=>(Sg.mem (S:=fun w=>w ∈ []\/w ∈ vs) (.inr hv)).sq nd
 z:=fun _ _ _ hj=>absurd hj (Nat.not_lt_zero _)
 e:=trivial
theorem Clr.none {O:(Nat->R)->Prop}{P a2e:List (Nat->R)}(h:Clr O m P a2e)(hz:∀ v ∈ a2e,v m=0):Clr O (m + 1) P a2e where
 p:=h.p
 r:=h.r
 o:=h.o
 z:=fun v hv j hj=>by
  rcases Nat.lt_or_ge j m with c | c
  ·exact h.z v hv j c
  ·obtain rfl:j=m:=by omega
   exact hz v hv
 e:=h.e.up (by omega)
theorem Clr.lead (nd:b5b R){O:(Nat->R)->Prop}{P a2e hs zs:List (Nat->R)}{l:Nat->R}(h:Clr O m P a2e)(hin:∀ v,v ∈ a2e ↔ v=l\/v ∈ hs\/v ∈ zs)(h0:l m ≠ 0)(hz:∀ v ∈ zs,v m=0) :
  Clr O (m + 1) (P ++ [l]) (hs.map (fun v j=>v j * l m - l j * v m) ++ zs):=by
 have hl:l ∈ a2e:=(hin l).2 (.inl rfl);refine ⟨fun v hv=>?_,fun v hv=>?_,fun v hv=>?_,fun v hv j hj=>?_,Ech.snoc (h.z l hl) h0 h.e⟩
 ·rcases List.mem_append.1 hv with c | c
  ·exact h.p v c
  ·rw [List.mem_singleton.1 c]; exact h.r l hl
 ·rcases List.mem_append.1 hv with c | c
  ·obtain ⟨w,hw,rfl⟩:=List.mem_map.1 c;have:=((h.r w ((hin w).2 (.inr (.inl hw)))).mul (l m)).add ((h.r l hl).mul (0 - w m))
   rwa [show (fun j=>l m * w j + (0 - w m) * l j) = fun j=>w j * l m - l j * w m from funext fun j=>by grind] at this
  ·exact h.r v ((hin v).2 (.inr (.inr c)))
 ·refine Sq.trans nd (fun s hs'=>?_) (h.o v hv)
  rcases hs' with c | c
  ·exact (Sg.mem (S:=fun w=>w ∈ P ++ [l]\/w ∈ hs.map (fun v j=>v j * l m - l j * v m) ++ zs) (.inl (List.mem_append_left _ c))).sq nd
  ·rcases (hin s).1 c with rfl | c | c
   ·exact (Sg.mem (S:=fun w=>w ∈ P ++ [s]\/w ∈ hs.map (fun v j=>v j * s m - s j * v m) ++ zs) (.inl (List.mem_append_right _ (List.mem_singleton.2 rfl)))).sq nd
   ·refine ⟨l m,h0,?_⟩;have a:=Sg.mem (S:=fun w=>w ∈ P ++ [l]\/w ∈ hs.map (fun v j=>v j * l m - l j * v m) ++ zs) (s:=fun j=>s j * l m - l j * s m) (.inr (List.mem_append_left _ (List.mem_map.2 ⟨s,c,rfl⟩)));have b:=Sg.mem (S:=fun w=>w ∈ P ++ [l]\/w ∈ hs.map (fun v j=>v j * l m - l j * v m) ++ zs) (s:=l) (.inl (List.mem_append_right _ (List.mem_singleton.2 rfl)));have:=a.add (b.mul (s m))
    rwa [show (fun j=>s j * l m - l j * s m + s m * l j) = fun j=>l m * s j from funext fun j=>by grind] at this
   ·exact (Sg.mem (S:=fun w=>w ∈ P ++ [l]\/w ∈ hs.map (fun v j=>v j * l m - l j * v m) ++ zs) (.inr (List.mem_append_right _ c))).sq nd
 ·rcases List.mem_append.1 hv with c | c
  ·obtain ⟨w,hw,rfl⟩:=List.mem_map.1 c;have hw':w ∈ a2e:=(hin w).2 (.inr (.inl hw))
   rcases Nat.lt_or_ge j m with y | y
   ·show w j * l m - l j * w m=0;rw [h.z w hw' j y,h.z l hl j y]; grind
   ·obtain rfl:j=m:=by omega
    show w j * l j - l j * w j=0
    grind
  ·rcases Nat.lt_or_ge j m with y | y
   ·exact h.z v ((hin v).2 (.inr (.inr c))) j y
   ·obtain rfl:j=m:=by omega
    exact hz v c
theorem Clr.fin (nd:b5b R){O:(Nat->R)->Prop}{P a2e:List (Nat->R)}(h:Clr O m P a2e)(hm:∀ v ∈ a2e,∀ j,m <= j->v j=0){rs:List (Nat->R)}(hr:Lin rs)(hro:∀ v ∈ rs,O v)(hor:∀ v,O v->Sg (· ∈ rs) v):P.length=rs.length:=by
 refine Nat.le_antisymm (Lin.le nd (h.e.lin nd) fun p hp=>?_) (Lin.le nd hr fun r hr'=>?_)
 ·exact (Sg.trans hor (h.p p hp)).sq nd
 ·refine Sq.trans nd (fun s hs=>?_) (h.o r (hro r hr'))
  rcases hs with c | c
  ·exact (Sg.mem (S:=(· ∈ P)) c).sq nd
  ·have:s=fun _=>0:=funext fun j=>by
    rcases Nat.lt_or_ge j m with y | y
    ·exact h.z s c j y
    ·exact hm s c j y
   rw [this];exact Sg.z.sq nd
end
end Tw
namespace Tw
def GI:Type:=Int × Int
def GI.re (a:GI):Int:=a.1
def GI.im (a:GI):Int:=a.2
def GI.mk (a b:Int):GI:=(a,b)
theorem GI.ext {a b:GI}(h1:a.re=b.re)(h2:a.im=b.im):a=b:=Prod.ext h1 h2
instance:Add GI:=⟨fun a b=>GI.mk (a.re + b.re) (a.im + b.im)⟩
instance:Mul GI:=⟨fun a b=>GI.mk (a.re * b.re - a.im * b.im) (a.re * b.im + a.im * b.re)⟩
instance:Neg GI:=⟨fun a=>GI.mk (-a.re) (-a.im)⟩
instance:Sub GI:=⟨fun a b=>GI.mk (a.re - b.re) (a.im - b.im)⟩
instance:NatCast GI:=⟨fun n=>GI.mk n 0⟩
instance:IntCast GI:=⟨fun n=>GI.mk n 0⟩
instance (n:Nat):OfNat GI n:=⟨GI.mk n 0⟩
def GI.npow (a:GI):Nat->GI
 | 0=>1
 | n + 1=>GI.npow a n * a
instance:HPow GI Nat GI:=⟨GI.npow⟩
instance:SMul Nat GI:=⟨fun n a=>(n:GI) * a⟩
instance:SMul Int GI:=⟨fun n a=>(n:GI) * a⟩
theorem GI.add_re (a b:GI):(a + b).re=a.re + b.re:=rfl
theorem GI.add_im (a b:GI):(a + b).im=a.im + b.im:=rfl
theorem GI.mul_re (a b:GI):(a * b).re=a.re * b.re - a.im * b.im:=rfl
theorem GI.mul_im (a b:GI):(a * b).im=a.re * b.im + a.im * b.re:=rfl
instance:Lean.Grind.CommRing GI where
 add_zero a:=GI.ext (Int.add_zero _) (Int.add_zero _)
 add_comm a b:=GI.ext (Int.add_comm _ _) (Int.add_comm _ _)
 add_assoc a b c:=GI.ext (Int.add_assoc _ _ _) (Int.add_assoc _ _ _)
 mul_assoc a b c:=GI.ext (by simp only [GI.mul_re,GI.mul_im]; grind) (by simp only [GI.mul_re,GI.mul_im]; grind)
 mul_one a:=GI.ext (show a.re * 1 - a.im * 0=a.re by omega) (show a.re * 0 + a.im * 1=a.im by omega)
 mul_comm a b:=GI.ext (by simp only [GI.mul_re,GI.mul_im]; grind) (by simp only [GI.mul_re,GI.mul_im]; grind)
 left_distrib a b c:=GI.ext (by simp only [GI.mul_re,GI.mul_im,GI.add_re,GI.add_im]; grind) (by simp only [GI.mul_re,GI.mul_im,GI.add_re,GI.add_im]; grind)
 zero_mul a:=GI.ext (show 0 * a.re - 0 * a.im=0 by omega) (show 0 * a.im + 0 * a.re=0 by omega)
 one_mul a:=GI.ext (show 1 * a.re - 0 * a.im=a.re by omega) (show 1 * a.im + 0 * a.re=a.im by omega)
 mul_zero a:=GI.ext (show a.re * 0 - a.im * 0=0 by omega) (show a.re * 0 + a.im * 0=0 by omega)
 right_distrib a b c:=GI.ext (by simp only [GI.mul_re,GI.mul_im,GI.add_re,GI.add_im]; grind) (by simp only [GI.mul_re,GI.mul_im,GI.add_re,GI.add_im]; grind)
 pow_zero a:=rfl
 pow_succ a n:=rfl
 ofNat_succ n:=GI.ext (show ((n + 1:Nat):Int) = (n:Int) + ((1:Nat):Int) by omega) rfl
 ofNat_eq_natCast n:=rfl
 nsmul_eq_natCast_mul n a:=rfl
 neg_add_cancel a:=GI.ext (show -a.re + a.re=0 by omega) (show -a.im + a.im=0 by omega)
 sub_eq_add_neg a b:=GI.ext (show a.re - b.re=a.re + -b.re by omega) (show a.im - b.im=a.im + -b.im by omega)
 neg_zsmul i a:=GI.ext (show -i * a.re - 0 * a.im= -(i * a.re - 0 * a.im) by grind) (show -i * a.im + 0 * a.re= -(i * a.im + 0 * a.re) by grind)
 zsmul_natCast_eq_nsmul n a:=rfl
 intCast_ofNat n:=rfl
 intCast_neg i:=GI.ext rfl (show (0:Int) = -0 by omega)
theorem GI.noDiv:b5b GI:=by
 refine ⟨fun z=>absurd (congrArg GI.re z) (by decide),fun a b z=>?_⟩;have z1:a.re * b.re - a.im * b.im=0:=congrArg GI.re z;have z2:a.re * b.im + a.im * b.re=0:=congrArg GI.im z;have k1:(a.re * a.re + a.im * a.im) * b.re=0:=by grind
 have k2:(a.re * a.re + a.im * a.im) * b.im=0:=by grind
 by_cases c:a.re * a.re + a.im * a.im=0
 ·left
  have e1:((a.re.natAbs * a.re.natAbs:Nat):Int) = a.re * a.re:=Int.natAbs_mul_self;have e2:((a.im.natAbs * a.im.natAbs:Nat):Int) = a.im * a.im:=Int.natAbs_mul_self;rw [<- e1,<- e2] at c;have c1:a.re.natAbs * a.re.natAbs=0:=by omega
  have c2:a.im.natAbs * a.im.natAbs=0:=by omega
  have y1:a.re.natAbs=0:=by rcases Nat.mul_eq_zero.mp c1 with y | y <;> exact y
  have y2:a.im.natAbs=0:=by rcases Nat.mul_eq_zero.mp c2 with y | y <;> exact y
  exact GI.ext (show a.re=0 by omega) (show a.im=0 by omega)
 ·right
  exact GI.ext ((Int.mul_eq_zero.1 k1).resolve_left c) ((Int.mul_eq_zero.1 k2).resolve_left c)
end Tw
namespace Tw
open PySem L2
variable {p:Int × Int}{A B L:List Nat}{rs:List Row}{M a a' b d q t v x z:Nat}
def Stb (f:Nat->Int × Int)(r:Row):Prop:=∀ c,f (c ^^^ r.x) = a2h (trn r c) (f c)
theorem Stb.zero (f:Nat->Int × Int):Stb f ⟨0,0,0⟩:=fun c=>by
 show f (c ^^^ 0) = a2h (trn ⟨0,0,0⟩ c) (f c);rw [Nat.xor_zero,b3m _ (by unfold trn; rw [Nat.zero_and,Nat.zero_and,a7j]; rfl)]
theorem Stb.prod {f:Nat->Int × Int}{r q:Row}(hr:Stb f r)(hq:Stb f q)(h:a4z r q=false):Stb f (prod r q):=fun c=>by
 have hc:pop (crs r q) % 2=0:=(symp_pop r q).1 h;obtain ⟨e1,e2⟩:=prod_does hc c;rw [<- e1,hq,hr,a6c];exact a1b (by omega) _
theorem Stb.spn {n:Nat}{f:Nat->Int × Int}:∀ {rs:List Row},(∀ r ∈ rs,r.Ok n)->(∀ r ∈ rs,∀ s ∈ rs,a4z r s=false)->(∀ r ∈ rs,Stb f r)->∀ m,∃ r:Row,r.Ok n/\sn n r=a0u (rs.map (sn n)) m/\Stb f r/\∀ s:Row,(∀ u ∈ rs,a4z s u=false)->a4z s r=false
 | [],_,_,_,m=>⟨⟨0,0,0⟩,⟨Nat.zero_le _,Nat.two_pow_pos n,Nat.two_pow_pos n⟩,by unfold sn; rw [Nat.zero_mul]; rfl,Stb.zero f,fun s _=>by rw [a6d]; exact symp_zero s⟩
 | u :: rs,ok,com,st,m=>by
  obtain ⟨r,h1,h2,h3,h4⟩:=Stb.spn (rs:=rs) (fun r hr=>ok r (List.mem_cons_of_mem _ hr)) (fun r hr s hs=>com r (List.mem_cons_of_mem _ hr) s (List.mem_cons_of_mem _ hs)) (fun r hr=>st r (List.mem_cons_of_mem _ hr)) (m / 2)
  cases hm:m.testBit 0 with
  | false=>
   refine ⟨r,h1,?_,h3,fun s hs=>h4 s fun v hv=>hs v (List.mem_cons_of_mem _ hv)⟩;show _=(if m.testBit 0=true then sn n u else 0) ^^^ a0u (rs.map (sn n)) (m / 2);rw [hm,if_neg (by decide),Nat.zero_xor,h2]
  | true=>
   have hu:a4z u r=false:=h4 u fun v hv=>com u (by simp) v (List.mem_cons_of_mem _ hv);refine ⟨Tw.prod u r,prod_ok (ok u (by simp)) h1,?_,(st u (by simp)).prod h3 hu,fun s hs=>?_⟩
   ·show _=(if m.testBit 0=true then sn n u else 0) ^^^ a0u (rs.map (sn n)) (m / 2);rw [hm,if_pos rfl,<- h2];unfold sn;show (u.x ^^^ r.x) ^^^ (u.z ^^^ r.z) * 2 ^ n=_;apply Nat.eq_of_testBit_eq;intro q;simp only [Nat.testBit_xor,Nat.testBit_mul_two_pow];cases u.x.testBit q <;> cases r.x.testBit q <;> cases decide (n <= q) <;> simp
   ·have e:=symp_add (r:=u) (s:=r) (t:=Tw.prod u r) (u:=s) ⟨rfl,rfl⟩;rw [a6d,e,a6d u,a6d r,hs u (by simp),h4 s fun v hv=>hs v (List.mem_cons_of_mem _ hv)];rfl
structure Stn (n:Nat)(f:Nat->Int × Int)(rs:List Row):Prop where
 ok:∀ r ∈ rs,r.Ok n
 gd:Gd n rs
 st:∀ r ∈ rs,Stb f r
 nz:∃ c,c < 2 ^ n/\f c ≠ (0,0)
theorem Stn.lt {n:Nat}{f:Nat->Int × Int}(h:Stn n f rs):∀ u ∈ rs.map (sn n),u < 2 ^ (2 * n):=fun u hu=>by
 obtain ⟨r,hr,rfl⟩:=List.mem_map.1 hu;exact sn_lt (h.ok r hr)
theorem sn_low {n:Nat}(hx:x < 2 ^ n):(x ^^^ z * 2 ^ n) % 2 ^ n=x:=by
 apply Nat.eq_of_testBit_eq;intro q;rw [Nat.testBit_mod_two_pow,b2e hx]
 by_cases c:q < n
 ·rw [if_pos c,decide_eq_true c,Bool.true_and]
 ·rw [decide_eq_false c,Bool.false_and,Nat.testBit_lt_two_pow (Nat.lt_of_lt_of_le hx (Nat.pow_le_pow_right (by decide) (by omega)))]
theorem b7w {n:Nat}(hx:x < 2 ^ n):(x ^^^ z * 2 ^ n) / 2 ^ n=z:=by
 apply Nat.eq_of_testBit_eq;intro q;rw [Nat.testBit_div_two_pow,b2e hx,if_neg (by omega),Nat.add_sub_cancel]
theorem Stn.row {n:Nat}{f:Nat->Int × Int}(h:Stn n f rs)(hv:Spn (rs.map (sn n)) v):∃ r:Row,r.Ok n/\r.x=v % 2 ^ n/\r.z=v / 2 ^ n/\Stb f r:=by
 obtain ⟨m,_,rfl⟩:=hv;obtain ⟨r,h1,h2,h3,_⟩:=Stb.spn h.ok h.gd.2.1 h.st m;refine ⟨r,h1,?_,?_,h3⟩
 ·rw [<- h2]; exact (sn_low h1.x).symm
 ·rw [<- h2]; exact (b7w h1.x).symm
theorem Stn.max {n:Nat}{f:Nat->Int × Int}(h:Stn n f rs)(hx:x < 2 ^ n)(hz:z < 2 ^ n)(hb:∀ r ∈ rs,(pb (r.x &&& z) ^^ pb (r.z &&& x)) = false):Spn (rs.map (sn n)) (x ^^^ z * 2 ^ n):=by
 have ok:(⟨0,x,z⟩:Row).Ok n:=⟨Nat.zero_le _,hx,hz⟩;refine sy_max h.lt (b4w h.gd.2.2) (by rw [List.length_map]; exact h.gd.1) (fun u hu v hv=>?_) (sn_lt ok) fun u hu=>?_
 ·obtain ⟨r,hr,rfl⟩:=List.mem_map.1 hu;obtain ⟨s,hs,rfl⟩:=List.mem_map.1 hv;rw [a9t (h.ok r hr) (h.ok s hs)];exact h.gd.2.1 r hr s hs
 ·obtain ⟨r,hr,rfl⟩:=List.mem_map.1 hu;exact (a9t (h.ok r hr) ok).trans (hb r hr)
theorem turn_fix (h:a2h q p=p)(hp:p ≠ (0,0)):q % 4=0:=by
 have h4:q % 4 < 4:=Nat.mod_lt _ (by decide);rw [<- a1b (a:=q % 4) (b:=q) (Nat.mod_mod _ _)] at h;obtain ⟨a,b⟩:=p;have hp':¬ (a=0/\b=0):=fun ⟨z1,z2⟩=>hp (by rw [z1,z2])
 match q % 4,h4,h with
 | 0,_,_=>rfl
 | 1,_,h=>
  exfalso;have e:((-b,a):Int × Int) = (a,b):=h;have e1:=congrArg Prod.fst e;have e2:=congrArg Prod.snd e;simp only at e1 e2;exact hp' (by omega)
 | 2,_,h=>
  exfalso;have e:((-a,-b):Int × Int) = (a,b):=h;have e1:=congrArg Prod.fst e;have e2:=congrArg Prod.snd e;simp only at e1 e2;exact hp' (by omega)
 | 3,_,h=>
  exfalso;have e:((b,-a):Int × Int) = (a,b):=h;have e1:=congrArg Prod.fst e;have e2:=congrArg Prod.snd e;simp only at e1 e2;exact hp' (by omega)
theorem pb_eq {u:Nat}:pb u=pb v ↔ pop u % 2=pop v % 2:=by
 unfold pb
 constructor
 ·intro h;have:=decide_eq_decide.1 h;omega
 ·intro h;exact decide_eq_decide.2 (by omega)
theorem and_in (hx:x &&& M=x):(d &&& M) &&& x=d &&& x:=by rw [Nat.and_assoc,Nat.and_comm M x,hx]
theorem b6f (ha:a &&& M=a)(hb:b &&& M=b):(a ^^^ b) &&& M=a ^^^ b:=by rw [Nat.and_xor_distrib_right,ha,hb]
structure Two (n:Nat)(A B:List Nat):Prop where
 ndA:A.Nodup
 ndB:B.Nodup
 ltA:∀ k ∈ A,k < n
 ltB:∀ k ∈ B,k < n
 ab:∀ k,k < n->(k ∈ A ↔ k ∉ B)
theorem Two.cut {n:Nat}(h:Two n A B){c:Nat}(hc:c < 2 ^ n):c=(c &&& smP A) ^^^ (c &&& smP B):=by
 apply Nat.eq_of_testBit_eq;intro q;rw [Nat.testBit_xor,Nat.testBit_and,Nat.testBit_and]
 cases e:c.testBit q with
 | false=>rfl
 | true=>
  have hq:=b5n.1 hc q e;have h1:=a4h h.ndA q;have h2:=a4h h.ndB q;have h3:=h.ab q hq
  by_cases k:q ∈ B
  ·have:¬ (smP A).testBit q=true:=fun z=>(h3.1 (h1.1 z)) k;rw [h2.2 k,Bool.eq_false_iff.2 this]; rfl
  ·have:¬ (smP B).testBit q=true:=fun z=>k (h2.1 z);rw [h1.2 (h3.2 k),Bool.eq_false_iff.2 this]; rfl
theorem Two.apart {n:Nat}(h:Two n A B)(ht:t &&& smP A=t)(hb:b &&& smP B=b):t &&& b=0:=by
 rw [<- ht,<- hb];apply Nat.eq_of_testBit_eq;intro q;simp only [Nat.testBit_and,Nat.zero_testBit]
 cases e1:(smP A).testBit q with
 | false=>simp
 | true=>
  cases e2:(smP B).testBit q with
  | false=>simp
  | true=>
   have a1:=(a4h h.ndA q).1 e1;exact absurd ((a4h h.ndB q).1 e2) ((h.ab q (h.ltA q a1)).1 a1)
theorem Two.inlt {n:Nat}(nd:A.Nodup)(lt:∀ k ∈ A,k < n)(ha:a &&& smP A=a):a < 2 ^ n:=by
 rw [<- ha];exact Nat.lt_of_le_of_lt Nat.and_le_right (b0g nd lt)
theorem Two.pbA {n:Nat}(h:Two n A B)(ht:t &&& smP A=t)(hb:b &&& smP B=b):pb (t &&& (a ^^^ b)) = pb (t &&& a):=by
 rw [a0y,h.apart ht hb,a4j,Bool.xor_false]
def XxA (n:Nat)(rs:List Row)(M:Nat)(x:Nat):Prop:=∃ v,Spn (rs.map (sn n)) v/\v % 2 ^ n &&& M=x
def TzA (n:Nat)(rs:List Row)(M:Nat)(t:Nat):Prop:=∃ v,Spn (rs.map (sn n)) v/\v % 2 ^ n &&& M=0/\v / 2 ^ n &&& M=t
theorem b3w (n a b:Nat):(a ^^^ b) % 2 ^ n=(a % 2 ^ n) ^^^ (b % 2 ^ n):=by
 apply Nat.eq_of_testBit_eq;intro q;simp only [Nat.testBit_mod_two_pow,Nat.testBit_xor];cases decide (q < n) <;> simp
theorem div_xor (n a b:Nat):(a ^^^ b) / 2 ^ n=(a / 2 ^ n) ^^^ (b / 2 ^ n):=by
 apply Nat.eq_of_testBit_eq;intro q;simp only [Nat.testBit_div_two_pow,Nat.testBit_xor]
theorem XxA.xor {n:Nat}{rs:List Row}{M a b:Nat}(ha:XxA n rs M a)(hb:XxA n rs M b):XxA n rs M (a ^^^ b):=by
 obtain ⟨v,h1,rfl⟩:=ha;obtain ⟨w,h2,rfl⟩:=hb;exact ⟨v ^^^ w,h1.xor h2,by rw [b3w,Nat.and_xor_distrib_right]⟩
theorem XxA.zero (n:Nat)(rs:List Row)(M:Nat):XxA n rs M 0:=⟨0,Spn.zero _,by rw [Nat.zero_mod,Nat.zero_and]⟩
theorem TzA.zero (n:Nat)(rs:List Row)(M:Nat):TzA n rs M 0:=⟨0,Spn.zero _,by rw [Nat.zero_mod,Nat.zero_and],by rw [Nat.zero_div,Nat.zero_and]⟩
theorem TzA.xor {n:Nat}{rs:List Row}{M a b:Nat}(ha:TzA n rs M a)(hb:TzA n rs M b):TzA n rs M (a ^^^ b):=by
 obtain ⟨v,h1,h2,rfl⟩:=ha;obtain ⟨w,k1,k2,rfl⟩:=hb;exact ⟨v ^^^ w,h1.xor k1,by rw [b3w,Nat.and_xor_distrib_right,h2,k2]; rfl,by rw [div_xor,Nat.and_xor_distrib_right]⟩
theorem XxA.inM {n:Nat}(h:XxA n rs M x):x &&& M=x:=by
 obtain ⟨v,_,rfl⟩:=h;rw [Nat.and_assoc,Nat.and_self]
theorem TzA.inM {n:Nat}(h:TzA n rs M x):x &&& M=x:=by
 obtain ⟨v,_,_,rfl⟩:=h;rw [Nat.and_assoc,Nat.and_self]
section
variable {n:Nat}{f:Nat->Int × Int}{rs:List Row}{A B:List Nat}
theorem Stn.zs (h:Stn n f rs)(w:Two n A B)(hd:∀ x,XxA n rs (smP A) x->pb (d &&& x) = false):Spn (rs.map (sn n)) ((d &&& smP A) * 2 ^ n):=by
 have ht:d &&& smP A < 2 ^ n:=Nat.lt_of_le_of_lt Nat.and_le_right (b0g w.ndA w.ltA)
 have:=h.max (x:=0) (Nat.two_pow_pos n) ht fun r hr=>by
  rw [Nat.and_zero,a4j,Bool.xor_false];have hx:=hd _ ⟨sn n r,Spn.mem (List.mem_map.2 ⟨r,hr,rfl⟩),rfl⟩;rw [show sn n r % 2 ^ n=r.x from sn_low (h.ok r hr).x] at hx;rw [<- hx]
  congr 1
  rw [Nat.and_comm d,<- Nat.and_assoc,Nat.and_comm d,Nat.and_assoc]
 rwa [Nat.zero_xor] at this
theorem Stn.zsT (h:Stn n f rs)(w:Two n A B)(hd:∀ x,XxA n rs (smP A) x->pb (d &&& x) = false):TzA n rs (smP A) (d &&& smP A):=by
 refine ⟨_,h.zs w hd,?_,?_⟩
 ·rw [Nat.mul_mod_left,Nat.zero_and]
 ·rw [Nat.mul_div_cancel _ (Nat.two_pow_pos n),Nat.and_assoc,Nat.and_self]
theorem Stn.dimX (h:Stn n f rs)(w:Two n A B):∃ k,Dim (XxA n rs (smP A)) k:=Dim.ex (N:=n) (XxA.zero ..) (fun _ _ a b=>a.xor b) fun v hv=>Two.inlt w.ndA w.ltA hv.inM
theorem Stn.tell (h:Stn n f rs)(w:Two n A B)(hx:x &&& smP A=x)(hn:¬ XxA n rs (smP A) x):∃ t,TzA n rs (smP A) t/\Spn (rs.map (sn n)) (t * 2 ^ n)/\pb (t &&& x) = true:=by
 obtain ⟨k,bs,_,_,hb⟩:=h.dimX w;obtain ⟨d,d1,d2,d3⟩:=dual (N:=n) bs x (fun u hu=>Two.inlt w.ndA w.ltA ((hb u).2 (Spn.mem hu)).inM) (Two.inlt w.ndA w.ltA hx) fun z=>hn ((hb x).2 z)
 have hd:∀ y,XxA n rs (smP A) y->pb (d &&& y) = false:=fun y hy=>by
  obtain ⟨m,_,rfl⟩:=(hb y).1 hy;exact b1f m d2
 exact ⟨d &&& smP A,h.zsT w hd,h.zs w hd,by rw [and_in hx]; exact d3⟩
theorem Stn.near (h:Stn n f rs)(w:Two n A B){b':Nat}(ha:a &&& smP A=a)(ha':a' &&& smP A=a')(hb:b &&& smP B=b)(hb':b' &&& smP B=b')(z:f (a ^^^ b) ≠ (0,0))(z':f (a' ^^^ b') ≠ (0,0)):XxA n rs (smP A) (a ^^^ a'):=by
 by_cases c:XxA n rs (smP A) (a ^^^ a')
 ·exact c
 ·exfalso;obtain ⟨t,ht,hs,hp⟩:=h.tell w (b6f ha ha') c;obtain ⟨r,_,hx,hz,st⟩:=h.row hs;rw [Nat.mul_mod_left] at hx;rw [Nat.mul_div_cancel _ (Nat.two_pow_pos n)] at hz
  have key:∀ c,f c ≠ (0,0)->(r.m + pop (t &&& c)) % 2=0:=fun c hc=>by
   have e:=st c;rw [hx,Nat.xor_zero] at e;have:=turn_fix e.symm hc;unfold trn at this;rw [hx,hz,Nat.zero_and,a7j] at this;omega
  have k1:=key _ z;have k2:=key _ z';have e:pb (t &&& (a ^^^ b)) = pb (t &&& (a' ^^^ b')):=pb_eq.2 (by omega);rw [w.pbA ht.inM hb,w.pbA ht.inM hb'] at e;rw [a0y,e,Bool.xor_self] at hp;cases hp
theorem turn_nz' (h:p ≠ (0,0)):a2h q p ≠ (0,0):=fun z=>h (by
 have e:a2h (3 * q) (a2h q p) = p:=by rw [a6c]; exact b3m _ (by omega) _
 rw [z] at e;rw [<- e];unfold a2h
 simp)
theorem Stn.far (h:Stn n f rs)(w:Two n A B)(hx:XxA n rs (smP A) x)(ha:a &&& smP A=a)(hb:b &&& smP B=b)(z:f (a ^^^ b) ≠ (0,0)):∃ b',b' &&& smP B=b'/\f ((a ^^^ x) ^^^ b') ≠ (0,0):=by
 obtain ⟨v,hv,rfl⟩:=hx;obtain ⟨r,ok,e1,e2,st⟩:=h.row hv;refine ⟨b ^^^ (r.x &&& smP B),b6f hb (by rw [Nat.and_assoc,Nat.and_self]),?_⟩
 have e:a ^^^ (v % 2 ^ n &&& smP A) ^^^ (b ^^^ (r.x &&& smP B)) = (a ^^^ b) ^^^ r.x:=by
  conv=>rhs; rw [w.cut ok.x]
  rw [e1]
  ac_rfl
 rw [e,st];exact turn_nz' z
def gi (p:Int × Int):GI:=p
def iu (q:Nat):GI:=a2h q (1,0)
theorem turn_iu (q:Nat)(p:Int × Int):gi (a2h q p) = iu q * gi p:=by
 have h4:q % 4 < 4:=Nat.mod_lt _ (by decide);unfold iu gi;rw [<- a1b (a:=q % 4) (b:=q) (Nat.mod_mod _ _),<- a1b (a:=q % 4) (b:=q) (Nat.mod_mod _ _)]
 match q % 4,h4 with
 | 0,_=>exact GI.ext (show p.1=1 * p.1 - 0 * p.2 by omega) (show p.2=1 * p.2 + 0 * p.1 by omega)
 | 1,_=>exact GI.ext (show -p.2= -0 * p.1 - 1 * p.2 by omega) (show p.1= -0 * p.2 + 1 * p.1 by omega)
 | 2,_=>exact GI.ext (show -p.1= -1 * p.1 - -0 * p.2 by omega) (show -p.2= -1 * p.2 + -0 * p.1 by omega)
 | 3,_=>exact GI.ext (show p.2=0 * p.1 - -1 * p.2 by omega) (show -p.1=0 * p.2 + -1 * p.1 by omega)
theorem Stn.like (h:Stn n f rs)(w:Two n A B)(ha:a &&& smP A=a)(ha':a' &&& smP A=a')(ht:∀ t,TzA n rs (smP A) t->pb (t &&& (a ^^^ a')) = false):∃ q,∀ b,b &&& smP B=b->f (a ^^^ b) = a2h q (f (a' ^^^ b)):=by
 let x:=a ^^^ a'
 have hx:x &&& smP A=x:=b6f ha ha';have hxl:x < 2 ^ n:=Two.inlt w.ndA w.ltA hx
 let y:Nat->Nat:=fun u=>(u % 2 ^ n &&& smP A) ^^^ (pb (u / 2 ^ n &&& x)).toNat * 2 ^ n
 have ylin:∀ u v,y (u ^^^ v) = y u ^^^ y v:=fun u v=>by
  show ((u ^^^ v) % 2 ^ n &&& smP A) ^^^ (pb ((u ^^^ v) / 2 ^ n &&& x)).toNat * 2 ^ n=((u % 2 ^ n &&& smP A) ^^^ (pb (u / 2 ^ n &&& x)).toNat * 2 ^ n) ^^^ ((v % 2 ^ n &&& smP A) ^^^ (pb (v / 2 ^ n &&& x)).toNat * 2 ^ n);rw [b3w,div_xor,Nat.and_xor_distrib_right,Nat.and_xor_distrib_right,a8j]
  have e:((pb (u / 2 ^ n &&& x) ^^ pb (v / 2 ^ n &&& x)).toNat * 2 ^ n) = (pb (u / 2 ^ n &&& x)).toNat * 2 ^ n ^^^ (pb (v / 2 ^ n &&& x)).toNat * 2 ^ n:=by
   cases pb (u / 2 ^ n &&& x) <;> cases pb (v / 2 ^ n &&& x) <;> simp
  rw [e]
  ac_rfl
 have ysmall:∀ u,u % 2 ^ n &&& smP A < 2 ^ n:=fun u=>Nat.lt_of_le_of_lt Nat.and_le_right (b0g w.ndA w.ltA)
 have yl:∀ u,y u < 2 ^ (n + 1):=fun u=>by
  refine Nat.xor_lt_two_pow (Nat.lt_of_lt_of_le (ysmall u) (Nat.pow_le_pow_right (by decide) (by omega))) ?_;have:=Nat.two_pow_pos n;rw [Nat.pow_succ];cases pb (u / 2 ^ n &&& x) <;> simp <;> omega
 obtain ⟨d,d1,d2,d3⟩:=dual (N:=n + 1) ((rs.map (sn n)).map y) (2 ^ n) (fun u hu=>by
   obtain ⟨v,_,rfl⟩:=List.mem_map.1 hu
   exact yl v) (Nat.pow_lt_pow_right (by decide) (by omega)) fun z=>by
  obtain ⟨v,hv,e⟩:=(Spn.map_iff ylin).1 z;have e':(v % 2 ^ n &&& smP A) ^^^ (pb (v / 2 ^ n &&& x)).toNat * 2 ^ n=2 ^ n:=e;have e1:((v % 2 ^ n &&& smP A) ^^^ (pb (v / 2 ^ n &&& x)).toNat * 2 ^ n) % 2 ^ n=2 ^ n % 2 ^ n:=by rw [e']
  have e2:((v % 2 ^ n &&& smP A) ^^^ (pb (v / 2 ^ n &&& x)).toNat * 2 ^ n) / 2 ^ n=2 ^ n / 2 ^ n:=by rw [e']
  rw [sn_low (ysmall v),Nat.mod_self] at e1;rw [b7w (ysmall v),Nat.div_self (Nat.two_pow_pos n)] at e2;have hT:TzA n rs (smP A) (v / 2 ^ n &&& smP A):=⟨v,hv,e1,rfl⟩;have:=ht _ hT;rw [and_in (show (a ^^^ a') &&& smP A=a ^^^ a' from hx)] at this;have e3:pb (v / 2 ^ n &&& x) = false:=this;rw [e3] at e2;cases e2
 have dn:d.testBit n=true:=by rw [Nat.and_comm,b6a] at d3; exact d3
 have dd:d=(d % 2 ^ n) ^^^ 1 * 2 ^ n:=by
  have h1:=b4q n d
  have h2:d / 2 ^ n=1:=by
   have k1:d / 2 ^ n < 2:=by rw [Nat.div_lt_iff_lt_mul (Nat.two_pow_pos n),Nat.mul_comm,<- Nat.pow_succ]; exact d1
   have k2:(d / 2 ^ n).testBit 0=true:=by rw [Nat.testBit_div_two_pow,Nat.zero_add]; exact dn
   have k3:d / 2 ^ n ≠ 0:=fun z=>by rw [z,Nat.zero_testBit] at k2; cases k2
   exact Nat.le_antisymm (Nat.lt_succ_iff.1 k1) (Nat.pos_of_ne_zero k3)
  rwa [h2] at h1
 let z:=d % 2 ^ n &&& smP A
 have hzl:z < 2 ^ n:=Nat.lt_of_le_of_lt Nat.and_le_right (b0g w.ndA w.ltA);have hzA:z &&& smP A=z:=by show (d % 2 ^ n &&& smP A) &&& smP A=_; rw [Nat.and_assoc,Nat.and_self]
 have hs:=h.max hxl hzl fun r hr=>by
  have h1:=d2 _ (List.mem_map.2 ⟨sn n r,List.mem_map.2 ⟨r,hr,rfl⟩,rfl⟩)
  have e:y (sn n r) = (r.x &&& smP A) ^^^ (pb (r.z &&& x)).toNat * 2 ^ n:=by
   show (sn n r % 2 ^ n &&& smP A) ^^^ (pb (sn n r / 2 ^ n &&& x)).toNat * 2 ^ n=_;rw [show sn n r % 2 ^ n=r.x from sn_low (h.ok r hr).x,show sn n r / 2 ^ n=r.z from b7w (h.ok r hr).x]
  rw [e,dd,pb_sn (Nat.mod_lt _ (Nat.two_pow_pos n)) (Nat.lt_of_le_of_lt Nat.and_le_right (b0g w.ndA w.ltA))] at h1;have e2:pb (1 &&& (pb (r.z &&& x)).toNat) = pb (r.z &&& x):=by cases pb (r.z &&& x) <;> decide +kernel
  rw [e2] at h1
  have e3:r.x &&& z=d % 2 ^ n &&& (r.x &&& smP A):=by
   show r.x &&& (d % 2 ^ n &&& smP A) = _;rw [<- Nat.and_assoc,<- Nat.and_assoc,Nat.and_comm r.x]
  rw [e3];exact h1
 obtain ⟨r,ok,e1,e2,st⟩:=h.row hs;rw [sn_low hxl] at e1;rw [b7w hxl] at e2;refine ⟨trn r a',fun b hb=>?_⟩
 have e3:a ^^^ b=(a' ^^^ b) ^^^ r.x:=by
  rw [e1];show a ^^^ b=a' ^^^ b ^^^ (a ^^^ a');rw [show a' ^^^ b ^^^ (a ^^^ a') = a ^^^ b ^^^ (a' ^^^ a') by ac_rfl,Nat.xor_self,Nat.xor_zero]
 rw [e3,st];refine a1b ?_ _;have e4:pb (r.z &&& (a' ^^^ b)) = pb (r.z &&& a'):=by rw [e2]; exact w.pbA hzA hb
 have e5:=pb_eq.1 e4;unfold trn;omega
def sgn (b:Bool):GI:=if b then -1 else 1
theorem iu_two (q:Nat):iu (2 * q) = sgn (decide (q % 2=1)):=by
 unfold iu sgn
 rcases (show q % 2=0\/q % 2=1 by omega) with e | e
 ·rw [b3m _ (by omega),if_neg (by rw [e]; decide)]; rfl
 ·rw [a1b (b:=2) (by omega),if_pos (by rw [e]; decide)]; rfl
theorem iu_add (a b:Nat):iu (a + b) = iu a * iu b:=by
 have:=turn_iu a (a2h b (1,0));rw [a6c] at this;exact this
theorem iu_mod (h:a % 4=b % 4):iu a=iu b:=a1b h _
theorem Stn.part (h:Stn n f rs)(w:Two n A B)(ht:TzA n rs (smP A) t):∃ (x:Nat) (Q:Nat->GI),x &&& smP B=x/\∀ a b,a &&& smP A=a->b &&& smP B=b->Q b * gi (f (a ^^^ (b ^^^ x))) = sgn (pb (t &&& a)) * gi (f (a ^^^ b)):=by
 obtain ⟨v,hv,h1,h2⟩:=ht;obtain ⟨r,ok,e1,e2,st⟩:=h.row hv
 have hx:r.x &&& smP B=r.x:=by
  conv=>rhs; rw [w.cut ok.x]
  rw [show r.x &&& smP A=0 by rw [e1]; exact h1,Nat.zero_xor]
 refine ⟨r.x,fun b=>iu (3 * (2 * r.m + 2 * pop ((r.z &&& smP B) &&& b) + pop (r.x &&& r.z))),hx,fun a b ha hb=>?_⟩;have e3:a ^^^ (b ^^^ r.x) = (a ^^^ b) ^^^ r.x:=by ac_rfl
 rw [e3,st,turn_iu]
 have e4:r.z &&& (a ^^^ b) = (t &&& a) ^^^ ((r.z &&& smP B) &&& b):=by
  rw [Nat.and_xor_distrib_left]
  congr 1
  ·rw [<- h2,<- e2,and_in ha]
  ·rw [and_in hb]
 have e5:=a8j (t &&& a) ((r.z &&& smP B) &&& b)
 have e6:pop (r.z &&& (a ^^^ b)) % 2=(pop (t &&& a) + pop ((r.z &&& smP B) &&& b)) % 2:=by
  rw [e4];exact a5p _ _
 have e7:iu (3 * (2 * r.m + 2 * pop ((r.z &&& smP B) &&& b) + pop (r.x &&& r.z))) * iu (trn r (a ^^^ b)) = sgn (pb (t &&& a)):=by
  rw [<- iu_add];have e8:sgn (pb (t &&& a)) = iu (2 * pop (t &&& a)):=(iu_two _).symm;rw [e8];refine iu_mod ?_;unfold trn;omega
 rw [<- e7]
 grind
def lcF (f:Nat->Int × Int):List GI->List Nat->Nat->GI
 | x :: xs,a :: as,b=>x * gi (f (a ^^^ b)) + lcF f xs as b
 | [],_,_=>0
 | _ :: _,[],_=>0
theorem lcF_zip (s:Nat->GI)(c:GI):∀ (xs:List GI) (as:List Nat) (b:Nat),lcF f (xs.zipWith (fun x a=>x * (c - s a)) as) as b=c * lcF f xs as b - lcF f (xs.zipWith (fun x a=>x * s a) as) as b
 | [],_,_=>by show (0:GI) = c * 0 - 0; grind
 | _ :: _,[],_=>by show (0:GI) = c * 0 - 0; grind
 | x :: xs,a :: as,b=>by
  show x * (c - s a) * gi (f (a ^^^ b)) + lcF f (xs.zipWith (fun x a=>x * (c - s a)) as) as b=c * (x * gi (f (a ^^^ b)) + lcF f xs as b) - (x * s a * gi (f (a ^^^ b)) + lcF f (xs.zipWith (fun x a=>x * s a) as) as b);rw [lcF_zip s c xs as b]; grind
theorem lcF_op {t x b:Nat}{q:GI}(hq:∀ a,a &&& smP A=a->q * gi (f (a ^^^ (b ^^^ x))) = sgn (pb (t &&& a)) * gi (f (a ^^^ b))):∀ {xs:List GI} {as:List Nat},(∀ a ∈ as,a &&& smP A=a)->lcF f (xs.zipWith (fun x a=>x * sgn (pb (t &&& a))) as) as b=q * lcF f xs as (b ^^^ x)
 | [],_,_=>by show (0:GI) = q * 0; grind
 | _ :: _,[],_=>by show (0:GI) = q * 0; grind
 | y :: xs,a :: as,h=>by
  show y * sgn (pb (t &&& a)) * gi (f (a ^^^ b)) + lcF f (xs.zipWith (fun x a=>x * sgn (pb (t &&& a))) as) as b=q * (y * gi (f (a ^^^ (b ^^^ x))) + lcF f xs as (b ^^^ x));rw [lcF_op hq fun a ha=>h a (List.mem_cons_of_mem _ ha)];have:=hq a (h a (by simp))
  grind
theorem sgn_ne {a b:Bool}(h:(a ^^ b) = true):sgn a - sgn b ≠ 0:=by
 cases a <;> cases b
 ·cases h
 ·exact fun z=>absurd (congrArg GI.re z) (by decide)
 ·exact fun z=>absurd (congrArg GI.re z) (by decide)
 ·cases h
theorem gi_ne (h:p ≠ (0,0)):gi p ≠ 0:=h
theorem Stn.lin (h:Stn n f rs)(w:Two n A B):∀ {as:List Nat},(∀ a ∈ as,a &&& smP A=a/\∃ b,b &&& smP B=b/\f (a ^^^ b) ≠ (0,0))->as.Pairwise (fun a a'=>∃ t,TzA n rs (smP A) t/\pb (t &&& (a ^^^ a')) = true)->∀ xs:List GI,xs.length=as.length->(∀ b,b &&& smP B=b->lcF f xs as b=0)->∀ x ∈ xs,x=0
 | [],_,_,[],_,_=>fun _ z=>(nomatch z)
 | a :: as,ha,hp,x :: xs,hl,hz=>by
  obtain ⟨p1,p2⟩:=List.pairwise_cons.1 hp;have hA:∀ a' ∈ as,a' &&& smP A=a':=fun a' h'=>(ha a' (List.mem_cons_of_mem _ h')).1;have hl':xs.length=as.length:=by simpa using hl
  have a2e:∀ y ∈ xs,y=0:=by
   intro y hy;obtain ⟨i,hi⟩:=List.getElem?_of_mem hy;have il:=(List.getElem?_eq_some_iff.1 hi).1;have ei:as[i]? = some as[i]:=List.getElem?_eq_getElem (by omega);obtain ⟨t,tT,tp⟩:=p1 as[i] (List.getElem_mem _);obtain ⟨x0,Q,hx0,hQ⟩:=h.part w tT
   have IH:=Stn.lin h w (fun a' h'=>ha a' (List.mem_cons_of_mem _ h')) p2 (xs.zipWith (fun x a'=>x * (sgn (pb (t &&& a)) - sgn (pb (t &&& a')))) as) (by rw [List.length_zipWith]; omega) fun b hb=>by
    rw [lcF_zip (fun a'=>sgn (pb (t &&& a')))];have z1:x * gi (f (a ^^^ b)) + lcF f xs as b=0:=hz b hb;have z2:x * gi (f (a ^^^ (b ^^^ x0))) + lcF f xs as (b ^^^ x0) = 0:=hz _ (b6f hb hx0);rw [lcF_op (A:=A) (q:=Q b) (x:=x0) (fun a' h'=>hQ a' b h' hb) hA];have z3:=hQ a b (ha a (by simp)).1 hb
    grind
   have:=IH (y * (sgn (pb (t &&& a)) - sgn (pb (t &&& as[i])))) (List.mem_of_getElem? (i:=i) (by rw [List.getElem?_zipWith,hi,ei]));refine (GI.noDiv.2 _ _ this).elim id fun z=>absurd z (sgn_ne ?_);rw [a0y] at tp;exact tp
  have lz:∀ (ys:List GI) (cs:List Nat) (b:Nat),(∀ y ∈ ys,y=0)->lcF f ys cs b=0:=by
   intro ys
   induction ys with
   | nil=>intro cs b _; rfl
   | cons y ys ih=>
    intro cs b hy
    cases cs with
    | nil=>rfl
    | cons c cs=>
     show y * gi (f (c ^^^ b)) + lcF f ys cs b=0;rw [ih cs b fun y' h'=>hy y' (List.mem_cons_of_mem _ h'),hy y (by simp)]; grind
  intro y hy
  rcases List.mem_cons.1 hy with rfl | hy
  ·obtain ⟨b,hb,hne⟩:=(ha a (by simp)).2;have z1:y * gi (f (a ^^^ b)) + lcF f xs as b=0:=hz b hb;rw [lz xs as b a2e] at z1;exact (GI.noDiv.2 y (gi (f (a ^^^ b))) (by grind)).elim id fun z=>absurd z (gi_ne hne)
  ·exact a2e y hy
theorem bits_spn (h:∀ q,v.testBit q=true->q ∈ L):Spn (L.map fun q=>2 ^ q) v:=
 b2s (N:=0) v v (fun q hq=>Nat.lt_of_lt_of_le Nat.lt_two_pow_self (Nat.ge_two_pow_of_testBit hq)) fun q hq=>Spn.mem (List.mem_map.2 ⟨q,h q hq,rfl⟩)
def lay (L:List Nat)(i:Nat):Nat:=a0u (L.map fun q=>2 ^ q) i
theorem lay_in (nd:L.Nodup)(i:Nat):lay L i &&& smP L=lay L i:=by
 apply Nat.eq_of_testBit_eq;intro q;rw [Nat.testBit_and]
 cases e:(lay L i).testBit q with
 | false=>rfl
 | true=>
  have:q ∈ L:=by
   by_cases c:q ∈ L
   ·exact c
   ·have b:=a5g (j:=q) (vs:=L.map fun q=>2 ^ q) i fun v hv=>by
     obtain ⟨t,ht,rfl⟩:=List.mem_map.1 hv;rw [Nat.testBit_two_pow];exact decide_eq_false fun z=>c (z ▸ ht)
    rw [show (a0u (L.map fun q=>2 ^ q) i).testBit q=true from e] at b;cases b
  rw [(a4h nd q).2 this]; rfl
theorem lay_onto (nd:L.Nodup)(h:a &&& smP L=a):∃ i,i < 2 ^ L.length/\lay L i=a:=by
 obtain ⟨i,hi,e⟩:=bits_spn (L:=L) (v:=a) fun q hq=>(a4h nd q).1 (by
  rw [<- h,Nat.testBit_and,Bool.and_eq_true] at hq
  exact hq.2)
 exact ⟨i,by rw [List.length_map] at hi; exact hi,e⟩
def lnA (f:Nat->Int × Int)(B:List Nat)(a:Nat)(j:Nat):GI:=if j < 2 ^ B.length then gi (f (a ^^^ lay B j)) else 0
theorem lc_lnA {j:Nat}(hj:j < 2 ^ B.length):∀ (xs:List GI) (as:List Nat),lc xs (as.map (lnA f B)) j=lcF f xs as (lay B j)
 | [],_=>rfl
 | _ :: _,[]=>rfl
 | x :: xs,a :: as=>by
  show x * lnA f B a j + lc xs (as.map (lnA f B)) j=x * gi (f (a ^^^ lay B j)) + lcF f xs as (lay B j);rw [lc_lnA hj xs as];unfold lnA;rw [if_pos hj]
theorem pre_list {P:Nat->Prop}{g:Nat->Nat}:∀ l:List Nat,(∀ w ∈ l,∃ v,P v/\g v=w)->∃ gs:List Nat,gs.map g=l/\∀ v ∈ gs,P v
 | [],_=>⟨[],rfl,fun _ z=>(nomatch z)⟩
 | w :: l,h=>by
  obtain ⟨v,hv,e⟩:=h w List.mem_cons_self;obtain ⟨gs,e2,hg⟩:=pre_list l fun w' hw'=>h w' (List.mem_cons_of_mem _ hw');refine ⟨v :: gs,by rw [List.map_cons,e,e2],fun u hu=>?_⟩
  rcases List.mem_cons.1 hu with rfl | hu
  ·exact hv
  ·exact hg u hu
theorem Stn.table (h:Stn n f rs)(w:Two n A B){k:Nat}(hk:Rk n rs A k):∃ (e:Nat) (R:List (Nat->GI)),k=A.length + e/\R.length=2 ^ e/\Lin R/\(∀ v ∈ R,∃ i,i < 2 ^ A.length/\v=lnA f B (lay A i))/\∀ i,i < 2 ^ A.length->Sg (· ∈ R) (lnA f B (lay A i)):=by
 obtain ⟨dX,hX⟩:=h.dimX w;have Xx:∀ {a b},XxA n rs (smP A) a->XxA n rs (smP A) b->XxA n rs (smP A) (a ^^^ b):=fun a b=>a.xor b;have Mlt:smP A < 2 ^ n:=b0g w.ndA w.ltA;obtain ⟨dT,hT⟩:=Dim.ex (P:=TzA n rs (smP A)) (N:=n) (TzA.zero ..) (fun _ _ a b=>a.xor b) fun v hv=>Two.inlt w.ndA w.ltA hv.inM;obtain ⟨ts,lt,it,bt⟩:=id hT;have tin:∀ t ∈ ts,t &&& smP A=t:=fun t h'=>((bt t).2 (Spn.mem h')).inM
 have tperp:∀ {x},b2k ts x=0->∀ t,TzA n rs (smP A) t->pb (t &&& x) = false:=fun {x} hx t ht=>by
  obtain ⟨m,_,rfl⟩:=(bt t).1 ht;rw [Nat.and_comm];refine b1f m fun u hu=>?_;rw [Nat.and_comm];exact a7q.1 hx u hu
 have UX:∀ {x},x &&& smP A=x->b2k ts x=0->XxA n rs (smP A) x:=fun {x} hx hs=>by
  by_cases c:XxA n rs (smP A) x
  ·exact c
  ·obtain ⟨t,h1,_,h3⟩:=h.tell w hx c;rw [tperp hs t h1] at h3;cases h3
 have dA:Dim (fun v=>v &&& smP A=v) A.length:=Dim.iff (fun v=>by
  constructor
  ·intro z;apply Nat.eq_of_testBit_eq;intro q;rw [Nat.testBit_and]
   cases e:v.testBit q with
   | false=>rfl
   | true=>rw [(a4h w.ndA q).2 (z q e)]; rfl
  ·intro z q hq;rw [<- z,Nat.testBit_and,Bool.and_eq_true] at hq
   exact (a4h w.ndA q).1 hq.2) (Dim.bits w.ndA)
 obtain ⟨dU,hU⟩:=Dim.ex (P:=fun v=>v &&& smP A=v/\b2k ts v=0) (N:=n) ⟨Nat.zero_and _,a7q.2 fun b _=>by rw [Nat.and_zero]; exact a4j⟩ (fun a b x y=>⟨b6f x.1 y.1,by rw [a5n,x.2,y.2]; rfl⟩) fun v z=>Two.inlt w.ndA w.ltA z.1
 have e3:A.length=dU + dT:=Dim.map (f:=b2k ts) (a5n ts) dA hU (Dim.iff (fun u=>by
  constructor
  ·intro hu;obtain ⟨D,eD1,eD2,eD3⟩:=duals (N:=n) ts it fun t h'=>Two.inlt w.ndA w.ltA (tin t h');refine ⟨a0u D u &&& smP A,by rw [Nat.and_assoc,Nat.and_self],?_⟩;apply Nat.eq_of_testBit_eq;intro j;rw [a3y]
   cases ej:ts[j]? with
   | none=>
    rw [Nat.testBit_lt_two_pow (Nat.lt_of_lt_of_le hu (Nat.pow_le_pow_right (by decide) (by rw [<- lt]; exact List.getElem?_eq_none_iff.1 ej)))]
   | some t=>
    have tm:=List.mem_of_getElem? ej;show pb (t &&& (a0u D u &&& smP A)) = u.testBit j;rw [show t &&& (a0u D u &&& smP A) = t &&& a0u D u by rw [Nat.and_comm (a0u D u),<- Nat.and_assoc,tin t tm]];refine pb_xsel (fun {i d} hd=>?_) (by rw [eD1]; exact (List.getElem?_eq_some_iff.1 ej).1);rw [Nat.and_comm];exact eD3 hd ej
  ·rintro ⟨v,_,rfl⟩;have:=synd_lt ts v
   rwa [lt] at this) (Dim.below dT))
 obtain ⟨e,hE⟩:=Dim.ex (P:=fun u=>∃ v,XxA n rs (smP A) v/\b2k ts v=u) (N:=dT) ⟨0,XxA.zero ..,a7q.2 fun b _=>by rw [Nat.and_zero]; exact a4j⟩ (fun a b x y=>by
  obtain ⟨v,h1,rfl⟩:=x;obtain ⟨v',h2,rfl⟩:=y
  exact ⟨v ^^^ v',h1.xor h2,a5n ..⟩) fun u z=>by
  obtain ⟨v,_,rfl⟩:=z;have:=synd_lt ts v
  rwa [lt] at this
 have e4:dX=dU + e:=Dim.map (f:=b2k ts) (a5n ts) hX (Dim.iff (fun v=>⟨fun z=>⟨UX z.1 z.2,z.2⟩,fun z=>⟨z.1.inM,z.2⟩⟩) hU) hE
 let P:=fun v=>Spn ((rs.map (sn n)).map (· &&& MM n A)) v
 have Pin:∀ {v},P v ↔ ∃ u,Spn (rs.map (sn n)) u/\u &&& MM n A=v:=fun {v}=>Spn.map_iff (a9g (MM n A))
 have cutl:∀ u,(u &&& MM n A) % 2 ^ n=u % 2 ^ n &&& smP A:=fun u=>by
  apply Nat.eq_of_testBit_eq;intro q;unfold MM;rw [Nat.testBit_mod_two_pow,Nat.testBit_and,b2e Mlt,Nat.testBit_and,Nat.testBit_mod_two_pow]
  by_cases c:q < n
  ·rw [if_pos c,decide_eq_true c]; simp
  ·rw [decide_eq_false c]; simp
 have cuth:∀ u,(u &&& MM n A) / 2 ^ n=u / 2 ^ n &&& smP A:=fun u=>by
  apply Nat.eq_of_testBit_eq;intro q;unfold MM;rw [Nat.testBit_div_two_pow,Nat.testBit_and,b2e Mlt,Nat.testBit_and,Nat.testBit_div_two_pow,if_neg (by omega),Nat.add_sub_cancel]
 obtain ⟨dK,hK⟩:=Dim.ex (P:=fun v=>P v/\v % 2 ^ n=0) (N:=2 * n) ⟨Spn.zero _,Nat.zero_mod _⟩ (fun a b x y=>⟨x.1.xor y.1,by rw [b3w,x.2,y.2]; rfl⟩) fun v z=>by
  obtain ⟨u,hu,rfl⟩:=Pin.1 z.1;exact Nat.lt_of_le_of_lt Nat.and_le_left (b4z h.lt hu)
 have e1:k=dK + dX:=Dim.map (f:=(· % 2 ^ n)) (b3w n) hk hK (Dim.iff (fun x=>by
  constructor
  ·rintro ⟨v,hv,rfl⟩;exact ⟨v &&& MM n A,Pin.2 ⟨v,hv,rfl⟩,cutl v⟩
  ·rintro ⟨v,hv,rfl⟩;obtain ⟨u,hu,rfl⟩:=Pin.1 hv
   exact ⟨u,hu,(cutl u).symm⟩) hX)
 have e2:dK=0 + dT:=Dim.map (f:=(· / 2 ^ n)) (div_xor n) hK (Dim.none fun v=>by
  constructor
  ·rintro ⟨⟨_,z1⟩,z2⟩;have:=Nat.mod_add_div v (2 ^ n);rw [z1,z2] at this;omega
  ·rintro rfl
   exact ⟨⟨Spn.zero _,Nat.zero_mod _⟩,Nat.zero_div _⟩) (Dim.iff (fun t=>by
  constructor
  ·rintro ⟨v,h1,h2,rfl⟩;exact ⟨v &&& MM n A,⟨Pin.2 ⟨v,h1,rfl⟩,by rw [cutl,h2]⟩,cuth v⟩
  ·rintro ⟨v,⟨h1,h2⟩,rfl⟩;obtain ⟨u,hu,rfl⟩:=Pin.1 h1
   exact ⟨u,hu,by rw [<- cutl]; exact h2,(cuth u).symm⟩) hT)
 obtain ⟨c0,hc0,z0⟩:=h.nz
 let a0:=c0 &&& smP A
 let b0:=c0 &&& smP B
 have ha0:a0 &&& smP A=a0:=by show (c0 &&& smP A) &&& smP A=_; rw [Nat.and_assoc,Nat.and_self]
 have hb0:b0 &&& smP B=b0:=by show (c0 &&& smP B) &&& smP B=_; rw [Nat.and_assoc,Nat.and_self]
 have z0':f (a0 ^^^ b0) ≠ (0,0):=by
  show f ((c0 &&& smP A) ^^^ (c0 &&& smP B)) ≠ _;rw [<- w.cut hc0]; exact z0
 obtain ⟨ws,lw,iw,bw⟩:=hE;obtain ⟨xs,ex,px⟩:=pre_list (P:=XxA n rs (smP A)) (g:=b2k ts) ws fun u hu=>(bw u).2 (Spn.mem hu);have lxs:xs.length=e:=by rw [<- lw,<- ex,List.length_map]
 have pX:∀ m,XxA n rs (smP A) (a0u xs m):=by
  have:∀ (l:List Nat),(∀ v ∈ l,XxA n rs (smP A) v)->∀ m,XxA n rs (smP A) (a0u l m):=by
   intro l
   induction l with
   | nil=>intro _ m; exact XxA.zero ..
   | cons v l ih=>
    intro hl m;show XxA n rs (smP A) ((if m.testBit 0=true then v else 0) ^^^ a0u l (m / 2));refine XxA.xor ?_ (ih (fun u hu=>hl u (List.mem_cons_of_mem _ hu)) _)
    split
    ·exact hl v (by simp)
    ·exact XxA.zero ..
  exact this xs px
 have sX:∀ m,b2k ts (a0u xs m) = a0u ws m:=fun m=>by rw [b2x (a5n ts),ex]
 let am:Nat->Nat:=fun m=>a0 ^^^ a0u xs m
 have amA:∀ m,am m &&& smP A=am m:=fun m=>b6f ha0 (pX m).inM;have amN:∀ m,∃ b,b &&& smP B=b/\f (am m ^^^ b) ≠ (0,0):=fun m=>h.far w (pX m) ha0 hb0 z0'
 have amS:∀ m m',b2k ts (am m ^^^ am m') = a0u ws m ^^^ a0u ws m':=fun m m'=>by
  show b2k ts (a0 ^^^ a0u xs m ^^^ (a0 ^^^ a0u xs m')) = _;rw [show a0 ^^^ a0u xs m ^^^ (a0 ^^^ a0u xs m') = (a0 ^^^ a0) ^^^ (a0u xs m ^^^ a0u xs m') by ac_rfl,Nat.xor_self,Nat.zero_xor,a5n,sX,sX]
 refine ⟨e,((List.range (2 ^ e)).map am).map (lnA f B),by omega,by rw [List.length_map,List.length_map,List.length_range],fun ys hl hz=>?_,fun v hv=>?_,fun i hi=>?_⟩
 ·rw [List.length_map] at hl;refine h.lin w (fun a ha=>?_) ?_ ys hl fun b hb=>?_
  ·obtain ⟨m,_,rfl⟩:=List.mem_map.1 ha;exact ⟨amA m,amN m⟩
  ·refine List.pairwise_map.2 (List.Pairwise.imp_of_mem (fun {m m'} hm hm' hne=>?_) List.nodup_range)
   have hs:b2k ts (am m ^^^ am m') ≠ 0:=fun z=>hne (b8k iw (by rw [lw]; exact List.mem_range.1 hm) (by rw [lw]; exact List.mem_range.1 hm') (by
    rw [amS] at z;have:=congrArg (· ^^^ a0u ws m') z
    simp only [Nat.xor_assoc,Nat.xor_self,Nat.xor_zero,Nat.zero_xor] at this
    exact this))
   obtain ⟨j,hj⟩:=Nat.exists_testBit_of_ne_zero hs;rw [a3y] at hj
   cases ej:ts[j]? with
   | none=>rw [ej] at hj; cases hj
   | some t=>
    rw [ej] at hj;exact ⟨t,(bt t).2 (Spn.mem (List.mem_of_getElem? ej)),hj⟩
  ·obtain ⟨j,hj,rfl⟩:=lay_onto w.ndB hb;rw [<- lc_lnA hj];exact hz j
 ·obtain ⟨a,ha,rfl⟩:=List.mem_map.1 hv;obtain ⟨m,_,rfl⟩:=List.mem_map.1 ha;obtain ⟨i,hi,e'⟩:=lay_onto w.ndA (amA m);exact ⟨i,hi,by rw [e']⟩
 ·have hA:=lay_in w.ndA i
  by_cases c:∃ b,b &&& smP B=b/\f (lay A i ^^^ b) ≠ (0,0)
  ·obtain ⟨b,hb,hn⟩:=c;have hx:=h.near w hA ha0 hb hb0 hn z0';obtain ⟨m,hm,em⟩:=(bw _).1 ⟨_,hx,rfl⟩
   have hs:b2k ts (lay A i ^^^ am m) = 0:=by
    show b2k ts (lay A i ^^^ (a0 ^^^ a0u xs m)) = 0;rw [<- Nat.xor_assoc,a5n,sX,em,Nat.xor_self]
   obtain ⟨q,hq⟩:=h.like w hA (amA m) (tperp hs);have mem:lnA f B (am m) ∈ ((List.range (2 ^ e)).map am).map (lnA f B):=List.mem_map.2 ⟨am m,List.mem_map.2 ⟨m,List.mem_range.2 (by rw [<- lw]; exact hm),rfl⟩,rfl⟩;have:=(Sg.mem (S:=(· ∈ ((List.range (2 ^ e)).map am).map (lnA f B))) mem).mul (iu q)
   rwa [show (fun j=>iu q * lnA f B (am m) j) = lnA f B (lay A i) from funext fun j=>by
    unfold lnA
    by_cases hj:j < 2 ^ B.length
    ·rw [if_pos hj,if_pos hj,hq _ (lay_in w.ndB j),turn_iu]
    ·rw [if_neg hj,if_neg hj]; grind] at this
  ·have e0:lnA f B (lay A i) = fun _=>0:=funext fun j=>by
    unfold lnA
    by_cases hj:j < 2 ^ B.length
    ·rw [if_pos hj]
     by_cases k:f (lay A i ^^^ lay B j) = (0,0)
     ·rw [k]; rfl
     ·exact absurd ⟨lay B j,lay_in w.ndB j,k⟩ c
    ·rw [if_neg hj]
   rw [e0];exact Sg.z
end
end Tw
namespace L2
open PySem PySem.Spec PyProof.Rows
variable {elts:List Expr}{kk:Nat}{tpos:Pos}{ta:TA}
def ItZ (K:PySem.W.Frag)(a b:Addr)(n:Nat):It:=
 ⟨fun i H=>∃ xs ys,SqL K H a xs/\SqL K H b ys/\xs.length=n/\ys.length=n/\i < n,fun i H x H'=>∃ T v u,H T=none/\x=.ref T/\(∀ xs,SqL K H a xs->xs[i]? = some v)/\(∀ ys,SqL K H b ys->ys[i]? = some u)/\H' = upd H T (.tup [v,u]),fun i H=>∃ xs ys,SqL K H a xs/\SqL K H b ys/\xs.length=n/\ys.length=n/\n <= i⟩
theorem turn_zip {P:Program}{w:World}{K:PySem.W.Frag}(a b z TI TO i1 i2:Addr)(n:Nat)
  (d1:TI ≠ z) (d2:TO ≠ z) (d3:i1 ≠ z) (d4:i2 ≠ z) (d5:TI ≠ TO) (d6:TI ≠ i1) (d7:TI ≠ i2) (d8:TO ≠ i1) (d9:TO ≠ i2) (d10:i1 ≠ i2) :
  Turn P w K (.Tuple elts kk tpos) (ItZ K a b n) [z,TI,TO,i1,i2] z (fun i h=>(IsZip h z TI TO .none/\IsPair h TI (.ref i1) (.ref i2)/\(∃ x y,IsPair h TO x y)/\h.IsListIter i1 a i/\h.IsListIter i2 b i)/\i <= n) where
 mem:=by simp
 obj:=fun i h st c hc=>by
  obtain ⟨⟨q1,q2,⟨_,_,q3⟩,⟨o4,q4,c4,e4⟩,⟨o5,q5,c5,e5⟩⟩,_⟩:=st;simp only [List.mem_cons,List.not_mem_nil,or_false] at hc
  rcases hc with rfl | rfl | rfl | rfl | rfl
  ·exact ⟨_,q1,fun v z=>by
    have z':Data.fields _=Data.cell v:=z
    cases z'⟩
  ·exact ⟨_,q2,fun v z=>by
    have z':Data.seq _=Data.cell v:=z
    cases z'⟩
  ·exact ⟨_,q3,fun v z=>by
    have z':Data.seq _=Data.cell v:=z
    cases z'⟩
  ·exact ⟨o4,q4,fun v q=>by rw [e4] at q; cases q⟩
  ·exact ⟨o5,q5,fun v q=>by rw [e5] at q; cases q⟩
 keep:=fun i h h' st k=>by
  obtain ⟨⟨q1,q2,⟨x,y,q3⟩,⟨o4,q4,r4⟩,⟨o5,q5,r5⟩⟩,l⟩:=st;exact ⟨⟨k z (by simp) _ q1,k TI (by simp) _ q2,⟨x,y,k TO (by simp) _ q3⟩,⟨o4,k i1 (by simp) o4 q4,r4⟩,⟨o5,k i2 (by simp) o5 q5,r5⟩⟩,l⟩
 item:=by
  intro X hP hw hK hc i pins s σ H E I hf st hg;subst hP hw hK;obtain ⟨xs,ys,hq,hq',hn,hn',hlt⟩:=hg;obtain ⟨its,rv,pl,hz⟩:=I.list hq;obtain ⟨its',rv',pl',hz'⟩:=I.list hq';have hl:=rv.length;have hl':=rv'.length;have hx:xs[i]? = some xs[i]:=List.getElem?_eq_getElem (by omega);have hy:ys[i]? = some ys[i]:=List.getElem?_eq_getElem (by omega);have al:=I.list_ne hf hq;have al':=I.list_ne hf hq';have W:=WalksT.zip2 (prog:=X.prog) (w:=X.w) (A:=X.A) (I.ok.hd hc) z TI TO i1 i2 a b ⟨d1,d2,d3,d4,d5,d6,d7,d8,d9,d10,al z (by simp),al TO (by simp),al i1 (by simp),al i2 (by simp),al' z (by simp),al' TO (by simp),al' i1 (by simp),al' i2 (by simp)⟩ its.toArray its'.toArray;refine W.item i s _ _ (by rw [List.size_toArray,List.size_toArray]; omega) ⟨st.1.1,st.1.2.1,st.1.2.2.1,st.1.2.2.2.1,st.1.2.2.2.2,pl.isList,pl'.isList⟩ fun T vals h' tk hv hT htup mid kk'=>?_;obtain ⟨u,u',hu,hu',rfl⟩:=hv;obtain ⟨u0,hu0,ru⟩:=rv.get hx;obtain ⟨u0',hu0',ru'⟩:=rv'.get hy
  have eu:u=u0:=by
   have h1:its[i]? = some u:=by simpa using hu
   rw [hu0] at h1;exact (Option.some.inj h1).symm
  have eu':u' = u0':=by
   have h1:its'[i]? = some u':=by simpa using hu'
   rw [hu0'] at h1;exact (Option.some.inj h1).symm
  subst eu eu';refine ⟨_,rfl,W.go elts kk tpos i T _ _ _ mid fun h2 st2 k2=>?_⟩;have hTw:=W.apart i T _ mid;have hH:H T=none:=I.hok.fresh hT;have sb:∀ c,c ∉ [z,TI,TO,i1,i2]->c ∉ [z,TO,i1,i2]:=fun c hc hc'=>hc (by simp at hc' ⊢; rcases hc' with q | q | q | q <;> simp [q])
  have kept:∀ c o,c ∉ [z,TI,TO,i1,i2]->s.heap.get? c=some o->h2.get? c=some o:=fun c o hb q=>k2 c o (sb c hb) (kk' c o (sb c hb) q)
  have ntr:∀ c v,H c=some v->c ∉ [z,TI,TO,i1,i2]:=fun c v q hb=>by
   have:=(hf c hb).1;rw [q] at this; cases this
  have bT:∀ c o,s.heap.get? c=some o->c ≠ T:=fun c o q=>Nat.ne_of_lt (Nat.lt_of_lt_of_le (Heap.lt_size q) hT);have hTI:T ≠ TI:=fun q=>bT TI _ st.1.2.1 q.symm;obtain ⟨oT,eT,cT,nT,dT⟩:=htup;have eT2:=k2 T oT hTw eT
  have un:Un (frs X.stack) [z,TI,TO,i1,i2] H (upd H T (.tup [xs[i],ys[i]])) s.heap h2:=
   ⟨fun c o q _ _ n3=>kept c o n3 q,fun c o q _ _ n3=>⟨o.slots,kept c o n3 q⟩,fun c o q n _=>by rw [a0m (bT c o q)]; exact n,fun c o q n3=>⟨o,kept c o n3 q⟩,
    fun c xs q=>by rw [a0m (a0h q hH)]; exact q,fun c o v q=>by rw [a0m (a0h q hH)]; exact q,fun c ps q=>⟨#[],by rw [a0m (a0h q hH),q]; simp⟩⟩
  have hok:HOk X.prog X.w (upd H T (.tup [xs[i],ys[i]])) h2:=fun c v q=>by
   by_cases hb:c=T
   ·subst hb;rw [a0c] at q; cases q;exact ⟨Nat.le_of_lt (a2j (show (2:Nat) <= 1000 by decide)),[u,u'],.cons ru (.cons ru' .nil),oT,eT2,cT,nT,dT⟩
   ·rw [a0m hb] at q;refine (I.hok c v q).stay (fun c' v' hc2 q'=>?_) (fun c' q'=>by rw [a0m (a0h q' hH)]; exact q') fun c' xs q'=>by rw [a0m (a0h q' hH)]; exact q'
    rcases hc2 with r | r
    ·subst r; exact kept _ _ (ntr _ _ q) q'
    ·exact kept _ _ (ntr _ _ r) q'
  refine ⟨.ref T,_,I.call' (s':={ s with heap:=h2,toks:=tk }) rfl un hok I.bare (fun c hb=>?_),rfl,⟨T,xs[i],ys[i],hH,rfl,fun ys' hy'=>by rw [I.list_inj hy' hq]; exact hx,fun ys' hy'=>by rw [I.list_inj hy' hq']; exact hy,rfl⟩,⟨⟨st2.1,st2.2.1,st2.2.2.1,st2.2.2.2.1,st2.2.2.2.2.1⟩,by omega⟩,fun c hb=>?_⟩
  ·obtain ⟨f0,f1,f2,f3,f4,f5⟩:=hf c hb;exact ⟨f3,f1,f4,f5⟩
  ·have hbT:c ≠ T:=fun q=>by
    subst q;simp only [List.mem_cons,List.not_mem_nil,or_false] at hb
    rcases hb with r | r | r | r | r
    ·exact hTw (by simp [r])
    ·exact hTI r
    ·exact hTw (by simp [r])
    ·exact hTw (by simp [r])
    ·exact hTw (by simp [r])
   rw [a0m hbT]; exact (hf c hb).1
 done:=by
  intro X hP hw hK hc i pins s σ H E I hf st hg;subst hP hw hK;obtain ⟨xs,ys,hq,hq',hn,hn',hg⟩:=hg;obtain ⟨its,rv,pl,hz⟩:=I.list hq;obtain ⟨its',rv',pl',hz'⟩:=I.list hq';have hl:=rv.length;have hl':=rv'.length;have al:=I.list_ne hf hq;have al':=I.list_ne hf hq';have W:=WalksT.zip2 (prog:=X.prog) (w:=X.w) (A:=X.A) (I.ok.hd hc) z TI TO i1 i2 a b ⟨d1,d2,d3,d4,d5,d6,d7,d8,d9,d10,al z (by simp),al TO (by simp),al i1 (by simp),al i2 (by simp),al' z (by simp),al' TO (by simp),al' i1 (by simp),al' i2 (by simp)⟩ its.toArray its'.toArray;have ei:i=min its.toArray.size its'.toArray.size:=by have:=st.2; rw [List.size_toArray,List.size_toArray]; omega
  refine W.done s _ _ (ei ▸ ⟨st.1.1,st.1.2.1,st.1.2.2.1,st.1.2.2.2.1,st.1.2.2.2.2,pl.isList,pl'.isList⟩) fun h2 tk kk'=>⟨rfl,?_⟩;have sb:∀ c,c ∉ [z,TI,TO,i1,i2]->c ∉ [z,TO,i1,i2]:=fun c hc hc'=>hc (by simp at hc' ⊢; rcases hc' with q | q | q | q <;> simp [q])
  have ntr:∀ c v,H c=some v->c ∉ [z,TI,TO,i1,i2]:=fun c v q hb=>by
   have:=(hf c hb).1;rw [q] at this; cases this
  have un:Un (frs X.stack) [z,TI,TO,i1,i2] H H s.heap h2:=
   ⟨fun c o q _ _ n3=>kk' c o (sb c n3) q,fun c o q _ _ n3=>⟨o.slots,kk' c o (sb c n3) q⟩,fun c o q n _=>n,fun c o q n3=>⟨o,kk' c o (sb c n3) q⟩,fun _ _ q=>q,fun _ _ _ q=>q,fun c ps q=>⟨#[],by rw [q]; simp⟩⟩
  have hok:HOk X.prog X.w H h2:=fun c v q=>by
   refine (I.hok c v q).stay (fun c' v' hc2 q'=>?_) (fun _ q'=>q') fun _ _ q'=>q'
   rcases hc2 with r | r
   ·subst r; exact kk' _ _ (sb _ (ntr _ _ q)) q'
   ·exact kk' _ _ (sb _ (ntr _ _ r)) q'
  exact I.call' (s':={ s with heap:=h2,toks:=tk }) rfl un hok I.bare fun c hb=>by
   obtain ⟨f0,f1,f2,f3,f4,f5⟩:=hf c hb;exact ⟨f3,f1,f4,f5⟩
 self:=fun _ _ _ _ _ st h=>wpAny_pyIter_zip st.1.1 h
section
variable {X:Cx}{tg:Expr}
def iZip (K:PySem.W.Frag)(ta:TA):TI:=fun σ H R=>ta σ H fun vs H1=>∃ a b xs ys,vs=[.ref a,.ref b]/\SqL K H1 a xs/\SqL K H1 b ys/\ys.length=xs.length/\R (ItZ K a b xs.length) H1
theorem boot_zip:bootBuiltins "zip" = some (.type "zip"):=by decide +kernel
theorem pi_zip {a b:Expr}{p pos:Pos}(hg:Gl X "zip")(hm:X.mg "zip" = none)(ha:PA X [a,b] ta)(hs:starEach [a,b] X.env=[(false,eval a X.env),(false,eval b X.env)]:=by rfl)(hs2:starEach [b] X.env=[(false,eval b X.env)]:=by rfl) :
  PI X (.Tuple elts kk tpos) (.Call (.Name "zip" p) [a,b] [] pos) (iZip X.K ta):=by
 intro pins s σ H R I h;refine Call_ (ld_blt I hg hm boot_zip (PyProof.Rows.callWith_type1 (thn (ha pos pins s σ H _ I h) fun us s1 ⟨vs,H1,I1,r1,q1⟩=>?_) (by rw [hs,hs2]) (by rw [hs2]; rfl)));obtain ⟨l1,l2,xs,ys,rfl,hq,hq',hl,q⟩:=q1;obtain ⟨u1,u2,rfl,ru1,ru2⟩:=a2t.two r1;cases ru1;cases ru2;obtain ⟨its,rv,pl,hz⟩:=I1.list hq;obtain ⟨its',rv',pl',hz'⟩:=I1.list hq';refine call_zip_2 pl.isList pl'.isList fun h' hz hTI hTO h1 h2 hsz hk=>?_;refine wpAny_pyIter_zip hz ?_;refine ⟨s1.heap.objs.size + 4,[s1.heap.objs.size + 4,s1.heap.objs.size + 2,s1.heap.objs.size + 3,s1.heap.objs.size,s1.heap.objs.size + 1],_,_,H1,rfl,I1.kept (t':=s1.toks) hk,turn_zip l1 l2 _ _ _ _ _ xs.length (fun e=>absurd (congrArg (fun x:Nat=>x) e) (by omega)) (fun e=>absurd (congrArg (fun x:Nat=>x) e) (by omega)) (fun e=>absurd (congrArg (fun x:Nat=>x) e) (by omega)) (fun e=>absurd (congrArg (fun x:Nat=>x) e) (by omega)) (fun e=>absurd (congrArg (fun x:Nat=>x) e) (by omega)) (fun e=>absurd (congrArg (fun x:Nat=>x) e) (by omega)) (fun e=>absurd (congrArg (fun x:Nat=>x) e) (by omega)) (fun e=>absurd (congrArg (fun x:Nat=>x) e) (by omega)) (fun e=>absurd (congrArg (fun x:Nat=>x) e) (by omega)) (fun e=>absurd (congrArg (fun x:Nat=>x) e) (by omega)),⟨⟨hz,hTI,⟨_,_,hTO⟩,h1,h2⟩,Nat.zero_le _⟩,fun c hb=>?_,q⟩
 have hb':s1.heap.objs.size <= c:=by
  simp only [List.mem_cons,List.not_mem_nil,or_false] at hb
  rcases hb with r | r | r | r | r <;> rw [r]
  ·exact Nat.le_add_right _ _
  ·exact Nat.le_add_right _ _
  ·exact Nat.le_add_right _ _
  ·exact Nat.le_refl _
  ·exact Nat.le_add_right _ _
 exact I1.fpOk hb' (I1.hok.fresh hb')
end
section
variable {K:PySem.W.Frag}{a b:Addr}{xs ys:List V}{g:TG}{tb:TS}{D:b0y}{σ:St}{H:Hp}
theorem st_for_zip (e:∀ P:List V->Hp->Prop,P [.ref a,.ref b] H->ta σ H P)(s:SqL K H a xs)(s':SqL K H b ys)(hy:ys.length=xs.length)(Pv:Nat->St->Hp->Prop)(h0:Pv 0 σ H)(hl:∀ i σ H,i <= xs.length->Pv i σ H->SqL K H a xs/\SqL K H b ys)
  (hs:∀ i x y σ H p,xs[i]? = some x->ys[i]? = some y->Pv i σ H->H p=none->g (.ref p) σ (upd H p (.tup [x,y])) fun σ2 H2=>tb { D with nx:=Pv (i + 1),ct:=Pv (i + 1),bk:=D.nx } σ2 H2) (hd:∀ σ H,Pv xs.length σ H->D.nx σ H):tFor (iZip K ta) g tb D σ H:=by
 refine e _ ⟨a,b,xs,ys,rfl,s,s',hy,fun i m σ H=>m=xs.length - i/\i <= xs.length/\Pv i σ H,⟨xs.length,by simp,Nat.zero_le _,h0⟩,?_⟩;rintro i m σ H ⟨rfl,hi,p⟩;obtain ⟨q,q'⟩:=hl i σ H hi p
 by_cases hlt:i < xs.length
 ·refine .inr ⟨⟨xs,ys,q,q',rfl,hy,hlt⟩,Pv (i + 1),fun σ' H' p'=>⟨xs.length - (i + 1),by omega,rfl,hlt,p'⟩,fun x H' y=>?_⟩;obtain ⟨T,v,u,hT,rfl,hv,hu,rfl⟩:=y;exact hs i v u σ H T (hv xs q) (hu ys q') p hT
 ·have e:i=xs.length:=by omega
  subst e;exact .inl ⟨⟨xs,ys,q,q',rfl,hy,Nat.le_refl _⟩,hd σ H p⟩
end
end L2
namespace L2
open PySem PySem.Spec PyProof.Rows
theorem pe_disp1 {X:Cx}{k v:Expr}{pos:Pos}{tk tv:TE}(hk:PE X k tk)(hv:PE X v tv):PE X (.Dict [some k] [v] pos) (tDisp [(tk,tv)]):=
 pe_disp (pps_cons hk hv pps_nil) rfl rfl (List.cons_ne_nil _ _) (Nat.le_of_ble_eq_true rfl)
end L2
namespace Tw
open PySem L2
variable {H:Hp}{p:Int × Int}{xs:List (Int × Int)}{K:PySem.W.Frag}
def b1d (K:PySem.W.Frag)(H:Hp)(t:Addr)(p:Int × Int):Prop:=SqT K H t [.int p.1,.int p.2]
def a3p (K:PySem.W.Frag)(H:Hp)(l:Addr)(ps:List (Int × Int)):Prop:=∃ ts,H l=some (.lst (a1q ts))/\a5d (b1d K H) ts ps
theorem b1d.same {H':Hp}(s:a1u H H'){t:Addr}(h:b1d K H t p):b1d K H' t p:=s.tup h
theorem a3p.same {K:PySem.W.Frag}{H H':Hp}(s:a1u H H'){l:Addr}{ps:List (Int × Int)}(h:a3p K H l ps):a3p K H' l ps:=by
 obtain ⟨ts,h1,h2⟩:=h;exact ⟨ts,s _ _ h1,h2.mono fun a p x=>b1d.same s x⟩
def pD (p:Int × Int):PyData:=.tuple [.int p.1,.int p.2]
def lD (ps:List (Int × Int)):PyData:=.list (ps.map pD)
theorem dvs_pr {K:PySem.W.Frag}{H:Hp}:∀ {ts:List Addr} {ps:List (Int × Int)},a5d (b1d K H) ts ps->DVs K H (a1q ts) (ps.map pD)
 | _,_,.nil=>.nil
 | _,_,.cons h t=>.cons (.tup h (.cons (.int _) (.cons (.int _) .nil))) (dvs_pr t)
theorem dvs_ln {K:PySem.W.Frag}{H:Hp}:∀ {as:List Addr} {ls:List (List (Int × Int))},a5d (a3p K H) as ls->DVs K H (a1q as) (ls.map lD)
 | _,_,.nil=>.nil
 | _,_,.cons ⟨_,h1,h2⟩ t=>.cons (.lst (SqL.of h1) (dvs_pr h2)) (dvs_ln t)
theorem lay_pr:∀ ps:List (Int × Int),PyData.canLayAll0 (ps.map pD) = true/\PyData.depthAll (ps.map pD) <= 4
 | []=>⟨rfl,by decide⟩
 | p :: ps=>by
  obtain ⟨h1,h2⟩:=lay_pr ps
  have h3:(pD p).depth <= 4:=by
   unfold pD;simp only [PyData.depth,PyData.depthAll];decide
  rw [List.map_cons];simp only [PyData.canLayAll0,PyData.depthAll,h1];refine ⟨by unfold pD; simp [PyData.canLay0,PyData.canLayAll0],by omega⟩
theorem lay_ln:∀ ls:List (List (Int × Int)),PyData.canLayAll0 (ls.map lD) = true/\PyData.depthAll (ls.map lD) <= 6
 | []=>⟨rfl,by decide⟩
 | p :: ps=>by
  obtain ⟨h1,h2⟩:=lay_ln ps;obtain ⟨h3,h4⟩:=lay_pr p
  have h5:(lD p).depth <= 6:=by
   unfold lD;simp only [PyData.depth];omega
  rw [List.map_cons];simp only [PyData.canLayAll0,PyData.depthAll,h1];refine ⟨by unfold lD; simp [PyData.canLay0,h3],by omega⟩
theorem st_neTab {Q:VK}{a b:Addr}{as:List Addr}{ls:List (List (Int × Int))}(ha:SqL K H a (a1q as))(h:a5d (a3p K H) as ls)(hb:SqL K H b [])(q:Q (.bl (!ls.isEmpty)) H):rNeD K (.ref a) (.ref b) H Q:=by
 obtain ⟨h1,h2⟩:=lay_ln ls;refine ⟨_,_,.lst ha (dvs_ln h),.lst hb .nil,?_,by decide,?_⟩
 ·unfold SeqAt.shaped;rw [PyData.canLay0,PyData.depth,h1,Bool.true_and,decide_eq_true_eq];omega
 ·rw [PyData.eqv]
  cases ls with
  | nil=>exact q
  | cons x xs=>exact q
def psub (p q:Int × Int):Int × Int:=(p.1 - q.1,p.2 - q.2)
def clrd (xs ys:List (Int × Int))(k:Nat):List (Int × Int):=List.zipWith (fun x y=>psub (gm x (ys.getD k (0,0))) (gm y (xs.getD k (0,0)))) xs ys
def fnL (xs:List (Int × Int))(j:Nat):GI:=gi (xs.getD j (0,0))
theorem b7e {j:Nat}(h:xs.length <= j):fnL xs j=0:=by
 unfold fnL;rw [List.getD_eq_getElem?_getD,List.getElem?_eq_none h];rfl
theorem fnL_clrd {ys:List (Int × Int)}(h:xs.length=ys.length)(k:Nat):fnL (clrd xs ys k) = fun j=>fnL xs j * fnL ys k - fnL ys j * fnL xs k:=funext fun j=>by
 rcases Nat.lt_or_ge j xs.length with c | c
 ·have e1:xs[j]? = some xs[j]:=List.getElem?_eq_getElem c;have e2:ys[j]? = some ys[j]:=List.getElem?_eq_getElem (by omega);unfold fnL clrd;rw [List.getD_eq_getElem?_getD,List.getElem?_zipWith,e1,e2];rw [show xs.getD j (0,0) = xs[j] by rw [List.getD_eq_getElem?_getD,e1]; rfl,show ys.getD j (0,0) = ys[j] by rw [List.getD_eq_getElem?_getD,e2]; rfl];rfl
 ·rw [b7e c,b7e (show ys.length <= j by omega),b7e (by unfold clrd; rw [List.length_zipWith]; omega)]
  grind
def Lb (e:Nat)(ps:List (Int × Int)):Prop:=∀ p ∈ ps,p.1.natAbs < 2 ^ e/\p.2.natAbs < 2 ^ e
theorem Lb.getD {e:Nat}{ps:List (Int × Int)}(h:Lb e ps)(k:Nat):(ps.getD k (0,0)).1.natAbs < 2 ^ e/\(ps.getD k (0,0)).2.natAbs < 2 ^ e:=by
 rw [List.getD_eq_getElem?_getD]
 cases c:ps[k]? with
 | none=>exact ⟨Nat.two_pow_pos e,Nat.two_pow_pos e⟩
 | some p=>exact h p (List.mem_of_getElem? c)
theorem psub_abs {q:Int × Int}{M:Nat}(hp:p.1.natAbs < M/\p.2.natAbs < M)(hq:q.1.natAbs < M/\q.2.natAbs < M):(psub p q).1.natAbs < 2 * M/\(psub p q).2.natAbs < 2 * M:=by
 unfold psub;dsimp only;omega
theorem Lb.clrd {e:Nat}{xs ys:List (Int × Int)}(hx:Lb e xs)(hy:Lb e ys)(k:Nat):Lb (2 * e + 2) (clrd xs ys k):=fun p hp=>by
 obtain ⟨j,hj⟩:=List.getElem?_of_mem hp;unfold Tw.clrd at hj;rw [List.getElem?_zipWith] at hj
 cases e1:xs[j]? with
 | none=>rw [e1] at hj; cases hj
 | some x=>
  cases e2:ys[j]? with
  | none=>rw [e1,e2] at hj; cases hj
  | some y=>
   rw [e1,e2] at hj;obtain rfl:psub (gm x (ys.getD k (0,0))) (gm y (xs.getD k (0,0))) = p:=Option.some.inj hj;have:=psub_abs (gm_abs (hx x (List.mem_of_getElem? e1)) (hy.getD k)) (gm_abs (hy y (List.mem_of_getElem? e2)) (hx.getD k))
   have e:2 * (2 * (2 ^ e * 2 ^ e)) = 2 ^ (2 * e + 2):=by
    rw [<- Nat.pow_add,show 2 * e + 2=e + e + 1 + 1 by omega,Nat.pow_succ,Nat.pow_succ];omega
   rwa [e] at this
def bt (k:Nat):Nat:=26 * 2 ^ k - 2
theorem bt_succ (k:Nat):bt (k + 1) = 2 * bt k + 2:=by
 unfold bt;have:=Nat.two_pow_pos k;rw [Nat.pow_succ];omega
theorem bt_le {k:Nat}(h:k <= 3):bt k <= 206:=by
 have:2 ^ k <= 2 ^ 3:=Nat.pow_le_pow_right (by decide) h;unfold bt;omega
structure Elim (ls:List (List (Int × Int)))(C i many:Nat)(a2e:List (List (Int × Int))):Prop where
 len:∀ l ∈ a2e,l.length=C
 room:many + a2e.length <= ls.length
 up:many <= i
 bnd:∀ l ∈ a2e,Lb (bt many) l
 clr:∃ P:List (Nat->GI),P.length=many/\Clr (· ∈ ls.map fnL) i P (a2e.map fnL)
theorem Elim.start {ls:List (List (Int × Int))}{C:Nat}(h:∀ l ∈ ls,l.length=C)(hb:∀ l ∈ ls,Lb 24 l):Elim ls C 0 0 ls:=⟨h,by omega,Nat.le_refl _,hb,[],rfl,Clr.start GI.noDiv _⟩
def b3d (i:Nat)(l:List (Int × Int)):Bool:=decide (l.getD i (0,0) ≠ (0,0))
theorem Elim.none {ls:List (List (Int × Int))}{C i many:Nat}{a2e:List (List (Int × Int))}(h:Elim ls C i many a2e)(hz:a2e.filter (b3d i) = []):Elim ls C (i + 1) many a2e:=by
 refine ⟨h.len,h.room,Nat.le_succ_of_le h.up,h.bnd,?_⟩;obtain ⟨P,hP,c⟩:=h.clr;refine ⟨P,hP,c.none fun v hv=>?_⟩;obtain ⟨l,hl,rfl⟩:=List.mem_map.1 hv;have:=List.filter_eq_nil_iff.1 hz l hl;unfold b3d at this;have e:l.getD i (0,0) = (0,0):=by simpa using this
 exact e
theorem b7m {α:Type}(p:α->Bool):∀ l:List α,(l.filter p).length + (l.filter fun x=>!p x).length=l.length
 | []=>rfl
 | x :: l=>by
  have ih:=b7m p l
  cases c:p x with
  | true=>rw [List.filter_cons_of_pos c,List.filter_cons_of_neg (by rw [c]; decide),List.length_cons,List.length_cons]; omega
  | false=>rw [List.filter_cons_of_neg (by rw [c]; decide),List.filter_cons_of_pos (by rw [c]; rfl),List.length_cons,List.length_cons]; omega
theorem Elim.lead {ls:List (List (Int × Int))}{C i many:Nat}{a2e hs:List (List (Int × Int))}{ld:List (Int × Int)}(h:Elim ls C i many a2e)(hz:a2e.filter (b3d i) = ld :: hs):Elim ls C (i + 1) (many + 1) (hs.map (fun l=>clrd l ld i) ++ a2e.filter (fun l=>!b3d i l)):=by
 have hin:∀ l,l ∈ a2e ↔ l=ld\/l ∈ hs\/l ∈ a2e.filter (fun l=>!b3d i l):=fun l=>by
  constructor
  ·intro hl
   cases c:b3d i l with
   | true=>
    have:l ∈ a2e.filter (b3d i):=List.mem_filter.2 ⟨hl,c⟩;rw [hz] at this
    rcases List.mem_cons.1 this with z | z
    ·exact .inl z
    ·exact .inr (.inl z)
   | false=>exact .inr (.inr (List.mem_filter.2 ⟨hl,by rw [c]; rfl⟩))
  ·rintro (rfl | z | z)
   ·exact (List.mem_filter.1 (show l ∈ a2e.filter (b3d i) by rw [hz]; exact List.mem_cons_self)).1
   ·exact (List.mem_filter.1 (show l ∈ a2e.filter (b3d i) by rw [hz]; exact List.mem_cons_of_mem _ z)).1
   ·exact (List.mem_filter.1 z).1
 have hld:=(hin ld).2 (.inl rfl);have nz:b3d i ld=true:=(List.mem_filter.1 (show ld ∈ a2e.filter (b3d i) by rw [hz]; exact List.mem_cons_self)).2
 have hlen:hs.length + 1 + (a2e.filter (fun l=>!b3d i l)).length=a2e.length:=by
  have e:=b7m (b3d i) a2e;rw [hz,List.length_cons] at e;exact e
 refine ⟨fun l hl=>?_,by rw [List.length_append,List.length_map]; have:=h.room; omega,Nat.succ_le_succ h.up,fun l hl=>?_,?_⟩
 ·rcases List.mem_append.1 hl with z | z
  ·obtain ⟨m,hm,rfl⟩:=List.mem_map.1 z;unfold clrd;rw [List.length_zipWith,h.len m ((hin m).2 (.inr (.inl hm))),h.len ld hld,Nat.min_self]
  ·exact h.len l ((hin l).2 (.inr (.inr z)))
 ·rw [bt_succ]
  rcases List.mem_append.1 hl with z | z
  ·obtain ⟨m,hm,rfl⟩:=List.mem_map.1 z;exact Lb.clrd (h.bnd m ((hin m).2 (.inr (.inl hm)))) (h.bnd ld hld) i
  ·intro p hp;have:=h.bnd l ((hin l).2 (.inr (.inr z))) p hp;have e:2 ^ bt many <= 2 ^ (2 * bt many + 2):=Nat.pow_le_pow_right (by decide) (by omega);omega
 ·obtain ⟨P,hP,c⟩:=h.clr;have k:=c.lead GI.noDiv (l:=fnL ld) (hs:=hs.map fnL) (zs:=(a2e.filter (fun l=>!b3d i l)).map fnL) (fun v=>?_) (fun z=>?_) fun v hv=>?_
  ·refine ⟨P ++ [fnL ld],by rw [List.length_append,hP]; rfl,?_⟩;rw [List.map_append,List.map_map];rw [List.map_map] at k
   rwa [show hs.map (fnL ∘ fun l=>clrd l ld i) = hs.map ((fun v j=>v j * fnL ld i - fnL ld j * v i) ∘ fnL) from List.map_congr_left fun m hm=>fnL_clrd ((h.len m ((hin m).2 (.inr (.inl hm)))).trans (h.len ld hld).symm) i]
  ·constructor
   ·intro hv;obtain ⟨l,hl,rfl⟩:=List.mem_map.1 hv
    rcases (hin l).1 hl with rfl | z | z
    ·exact .inl rfl
    ·exact .inr (.inl (List.mem_map.2 ⟨l,z,rfl⟩))
    ·exact .inr (.inr (List.mem_map.2 ⟨l,z,rfl⟩))
   ·rintro (rfl | z | z)
    ·exact List.mem_map.2 ⟨ld,hld,rfl⟩
    ·obtain ⟨l,hl,rfl⟩:=List.mem_map.1 z;exact List.mem_map.2 ⟨l,(hin l).2 (.inr (.inl hl)),rfl⟩
    ·obtain ⟨l,hl,rfl⟩:=List.mem_map.1 z;exact List.mem_map.2 ⟨l,(hin l).2 (.inr (.inr hl)),rfl⟩
  ·unfold b3d at nz;exact (of_decide_eq_true nz) z
  ·obtain ⟨l,hl,rfl⟩:=List.mem_map.1 hv;have:=(List.mem_filter.1 hl).2;unfold b3d at this;have e:l.getD i (0,0) = (0,0):=by simpa using this
   exact e
theorem Elim.fin {ls:List (List (Int × Int))}{C many:Nat}{a2e:List (List (Int × Int))}(h:Elim ls C C many a2e){R:List (Nat->GI)}(hr:Lin R)(hro:∀ v ∈ R,v ∈ ls.map fnL)(hor:∀ v ∈ ls.map fnL,Sg (· ∈ R) v):many=R.length:=by
 obtain ⟨P,hP,c⟩:=h.clr;rw [<- hP];refine c.fin GI.noDiv (fun v hv j hj=>?_) hr hro hor;obtain ⟨l,hl,rfl⟩:=List.mem_map.1 hv;exact b7e (by rw [h.len l hl]; exact hj)
end Tw
namespace Tw
open PySem L2
variable {d:Dd}{ds:List Dd}{A B:List Nat}{ws:Wh}
def wF (ds:List Dd):Wh:=ds.foldl (fun w d=>a4m d w) [(0,(1,0))]
theorem wF_take {i:Nat}(h:ds[i]? = some d):wF (ds.take (i + 1)) = a4m d (wF (ds.take i)):=by
 unfold wF;rw [List.take_succ,h];exact List.foldl_append
structure WF (n:Nat)(ds:List Dd)(ws:Wh):Prop where
 nd:(ws.map (·.1)).Nodup
 lt:∀ e ∈ ws,e.1 < 2 ^ n
 bn:Bn (2 ^ ds.length) (wv ws)
 st:∀ v,v < 2 ^ n->rF (im ds v) n (wv ws) = wv ws
 wt:0 < wW n (wv ws)
theorem sumZ_mem {α:Type}{f:α->Int}:∀ {l:List α},(∀ x ∈ l,0 <= f x)->∀ {a:α},a ∈ l->f a <= sumZ (l.map f)
 | x :: l,h,a,ha=>by
  have nn:∀ l:List α,(∀ x ∈ l,0 <= f x)->0 <= sumZ (l.map f):=by
   intro l
   induction l with
   | nil=>intro _; exact Int.le_refl _
   | cons y l ih=>
    intro hl;rw [List.map_cons];show 0 <= _ + _;have h1:=ih fun z hz=>hl z (List.mem_cons_of_mem _ hz);have h2:=hl y (by simp);omega
  have h1:=nn l fun z hz=>h z (List.mem_cons_of_mem _ hz);have h2:=h x (by simp);rw [List.map_cons];show _ <= _ + _
  rcases List.mem_cons.1 ha with rfl | ha
  ·omega
  ·have:=sumZ_mem (fun z hz=>h z (List.mem_cons_of_mem _ hz)) ha;omega
theorem WF.start (n:Nat):WF n [] [(0,(1,0))] where
 nd:=by simp
 lt:=fun e he=>by rw [List.mem_singleton.1 he]; exact Nat.two_pow_pos n
 bn:=Bn.start
 st:=fun v _=>stab_start n v
 wt:=by
  have h:(fun c=>nq (wv [(0,((1:Int),(0:Int)))] c)) 0 <= wW n (wv [(0,(1,0))]):=sumZ_mem (l:=List.range (2 ^ n)) (fun x _=>nq_nn _) (List.mem_range.2 (Nat.two_pow_pos n));have e:(fun c=>nq (wv [(0,((1:Int),(0:Int)))] c)) 0=1:=rfl;rw [e] at h;omega
theorem WF.deed {n:Nat}(h:WF n ds ws)(ok:d.Ok n)(oks:∀ d ∈ ds,d.Ok n):WF n (ds ++ [d]) (a4m d ws):=by
 have e:=deedF_wv ok h.nd;refine ⟨deedF_nd d ws,deedF_lt ok h.lt,?_,fun v hv=>?_,?_⟩
 ·rw [e,List.length_append,List.length_singleton,Nat.pow_succ,Nat.mul_comm];exact Bn.dF h.bn _ _ _
 ·have e1:wv ws=sm ws:=funext fun c=>wv_sm h.nd c;have s:=h.st v hv;rw [e1] at s;have:=stab_deed (b5k oks hv) ok s;unfold im;rw [b4e,e,e1];exact this
 ·rw [e];show 0 < wW n (dF d.k (d.w.getD 0 0) (d.w.getD 1 0) (wv ws));rw [wW_dF ok.one.1 ok.one.2.1];exact Int.mul_pos (DK.fac_pos _) h.wt
theorem WF.all {n:Nat}:∀ (i:Nat) {ds:List Dd},(∀ d ∈ ds,d.Ok n)->i <= ds.length->WF n (ds.take i) (wF (ds.take i))
 | 0,ds,_,_=>WF.start n
 | i + 1,ds,ok,hi=>by
  have e:ds[i]? = some ds[i]:=List.getElem?_eq_getElem (by omega);have h:=WF.all i ok (by omega);rw [wF_take e,a0q e];exact h.deed (ok _ (List.getElem_mem _)) fun d hd=>ok d (List.mem_of_mem_take hd)
theorem WF.len {n:Nat}(h:WF n ds ws)(hn:n <= 5):ws.length <= 32:=by
 have h1:=nodup_below (2 ^ n) _ h.nd fun x hx=>by obtain ⟨e,he,rfl⟩:=List.mem_map.mp hx; exact h.lt e he
 rw [List.length_map] at h1;have h2:2 ^ n <= 2 ^ 5:=Nat.pow_le_pow_right (by decide) hn;omega
theorem stb_of {n:Nat}{f:Nat->Int × Int}{r:Row}(ok:r.Ok n)(h:rF r n f=f):Stb f r:=fun c=>by
 have e:=congrFun h (c ^^^ r.x);unfold rF at e;rw [Nat.xor_assoc,Nat.xor_self,Nat.xor_zero] at e;rw [<- e,trn_qq ok]
theorem WF.stn {n:Nat}(h:WF n ds ws)(oks:∀ d ∈ ds,d.Ok n)(gd:Gd n ((List.range n).map fun k=>im ds (2 ^ k))):Stn n (wv ws) ((List.range n).map fun k=>im ds (2 ^ k)):=by
 refine ⟨fun r hr=>?_,gd,fun r hr=>?_,?_⟩
 ·obtain ⟨k,hk,rfl⟩:=List.mem_map.1 hr;exact b5k oks (Nat.pow_lt_pow_right (by decide) (List.mem_range.1 hk))
 ·obtain ⟨k,hk,rfl⟩:=List.mem_map.1 hr;have hv:2 ^ k < 2 ^ n:=Nat.pow_lt_pow_right (by decide) (List.mem_range.1 hk);exact stb_of (b5k oks hv) (h.st _ hv)
 ·by_cases c:∃ c,c < 2 ^ n/\wv ws c ≠ (0,0)
  ·exact c
  ·exfalso
   have:wW n (wv ws) = 0:=sumZ_zero fun x hx=>by
    by_cases z:wv ws x=(0,0)
    ·rw [z]; rfl
    ·exact absurd ⟨x,List.mem_range.1 hx,z⟩ c
   have:=h.wt;omega
def spr:List Nat->Nat->Nat
 | [],_=>0
 | w :: ws,i=>(i.testBit 0).toNat * 2 ^ w + spr ws (i / 2)
theorem spr_snoc:∀ (l:List Nat) (w i:Nat),spr (l ++ [w]) i=spr l i + (i.testBit l.length).toNat * 2 ^ w
 | [],w,i=>by show (i.testBit 0).toNat * 2 ^ w + 0=0 + (i.testBit 0).toNat * 2 ^ w; omega
 | v :: l,w,i=>by
  show (i.testBit 0).toNat * 2 ^ v + spr (l ++ [w]) (i / 2) = (i.testBit 0).toNat * 2 ^ v + spr l (i / 2) + (i.testBit (l.length + 1)).toNat * 2 ^ w;rw [spr_snoc l w (i / 2),Nat.testBit_succ];omega
theorem spr_lay:∀ {l:List Nat},l.Nodup->∀ i,spr l i=lay l i
 | [],_,_=>rfl
 | w :: l,nd,i=>by
  obtain ⟨n1,n2⟩:=List.nodup_cons.1 nd;show (i.testBit 0).toNat * 2 ^ w + spr l (i / 2) = (if i.testBit 0=true then 2 ^ w else 0) ^^^ a0u (l.map fun q=>2 ^ q) (i / 2);rw [spr_lay n2]
  have hb:(lay l (i / 2)).testBit w=false:=by
   refine a5g (i / 2) fun v hv=>?_;obtain ⟨t,ht,rfl⟩:=List.mem_map.1 hv;rw [Nat.testBit_two_pow];exact decide_eq_false fun z=>n1 (z ▸ ht)
  cases i.testBit 0 with
  | false=>rw [if_neg (by decide)]; show 0 * _ + _=_; rw [Nat.zero_mul,Nat.zero_add,Nat.zero_xor]; rfl
  | true=>
   rw [if_pos rfl];show 1 * 2 ^ w + _=_;rw [Nat.one_mul];refine b8h ?_;rw [Nat.and_comm,b1k,hb];simp
theorem Two.add {n:Nat}(w:Two n A B)(i j:Nat):lay A i + lay B j=lay A i ^^^ lay B j:=b8h (w.apart (lay_in w.ndA i) (lay_in w.ndB j))
def tabOf (f:Nat->Int × Int)(A B:List Nat):List (List (Int × Int)):=(List.range (2 ^ A.length)).map fun i=>(List.range (2 ^ B.length)).map fun j=>f (lay A i + lay B j)
theorem tab_fn {n:Nat}(w:Two n A B)(f:Nat->Int × Int)(i:Nat):fnL ((List.range (2 ^ B.length)).map fun j=>f (lay A i + lay B j)) = lnA f B (lay A i):=funext fun j=>by
 unfold fnL lnA;rw [List.getD_eq_getElem?_getD,List.getElem?_map]
 by_cases c:j < 2 ^ B.length
 ·rw [if_pos c,List.getElem?_range c,Option.map_some,Option.getD_some,w.add]
 ·rw [if_neg c,List.getElem?_eq_none (by rw [List.length_range]; omega)];rfl
theorem tab_fin {n:Nat}{f:Nat->Int × Int}{rs:List Row}(h:Stn n f rs)(w:Two n A B){k:Nat}(hk:Rk n rs A k){many:Nat}{a2e:List (List (Int × Int))}(he:Elim (tabOf f A B) (2 ^ B.length) (2 ^ B.length) many a2e):∃ e,k=A.length + e/\many=2 ^ e/\e <= A.length:=by
 obtain ⟨e,R,h1,h2,h3,h4,h5⟩:=h.table w hk;obtain ⟨kb,hb⟩:=Rk.ex n rs B;have hh:=Rk.half h.ok h.gd w.ndA w.ltA w.ndB w.ltB w.ab hk hb;refine ⟨e,h1,?_,by omega⟩;rw [<- h2];refine he.fin h3 (fun v hv=>?_) fun v hv=>?_
 ·obtain ⟨i,hi,rfl⟩:=h4 v hv;exact List.mem_map.2 ⟨_,List.mem_map.2 ⟨i,List.mem_range.2 hi,rfl⟩,tab_fn w f i⟩
 ·obtain ⟨l,hl,rfl⟩:=List.mem_map.1 hv;obtain ⟨i,hi,rfl⟩:=List.mem_map.1 hl;rw [tab_fn w];exact h5 i (List.mem_range.1 hi)
theorem tab_len {f:Nat->Int × Int}:(tabOf f A B).length=2 ^ A.length/\∀ l ∈ tabOf f A B,l.length=2 ^ B.length:=by
 refine ⟨by unfold tabOf; rw [List.length_map,List.length_range],fun l hl=>?_⟩;obtain ⟨i,_,rfl⟩:=List.mem_map.1 hl;rw [List.length_map,List.length_range]
theorem tab_bnd {f:Nat->Int × Int}{m:Nat}(h:Bn m f)(hm:m < 2 ^ 24):∀ l ∈ tabOf f A B,Lb 24 l:=fun l hl p hp=>by
 obtain ⟨i,_,rfl⟩:=List.mem_map.1 hl;obtain ⟨j,_,rfl⟩:=List.mem_map.1 hp;have:=h (lay A i + lay B j);omega
end Tw
set_option maxHeartbeats 30000000
namespace L2
open PySem
theorem b2m:bootBuiltins "all" = some (.builtin "all"):=by decide +kernel
theorem boot_sum:bootBuiltins "sum" = some (.builtin "sum"):=by decide +kernel
end L2
namespace Tw
open PySem L2
variable {f:Addr}{H:Hp}{p:Int × Int}{xs:List (Int × Int)}{l ws:List Int}{A:List Nat}{rs:List Row}{ss:List Sm}{us:List Value}{i j k x:Nat}{K:PySem.W.Frag}{w:World}
local macro_rules | `(tactic| fail "la")=>`(tactic| first | (with_reducible assumption) | exact a0c | (with_reducible refine' upd_get ?s1 ?s2; (case s1=>with_reducible assumption); (case s2=>fail "la")))
local macro_rules | `(tactic| fail "sq")=>`(tactic| first | (with_reducible assumption) | (with_reducible apply SqT.of a0c) | (with_reducible apply SqL.of a0c) | (with_reducible apply SqT.of; with_reducible assumption) | (with_reducible apply SqL.of; with_reducible assumption) | (with_reducible apply SqT.upd <;> first | (with_reducible assumption) | fail "sq") | (with_reducible apply SqL.upd <;> first | (with_reducible assumption) | fail "sq") | (with_reducible refine' a1u.tup ?s1 ?s2; (case s1=>with_reducible assumption); (case s2=>fail "sq")) | (with_reducible refine' a1u.seq ?s1 ?s2; (case s1=>with_reducible assumption); (case s2=>fail "sq")))
local macro_rules | `(tactic| fail "st")=>`(tactic| dsimp only [cxOf_K])
local macro_rules | `(tactic| fail "sd")=>`(tactic| first | omega | exact pow_pos2 _ | exact pow_le100 (by omega) | exact cdivw_pow (by omega) | exact cpow_n (by omega) | exact ⟨by decide,by decide⟩ | exact .inl ⟨by decide,by decide⟩ | decide)
local macro_rules | `(tactic| fail "tv")=>`(tactic| ((with_reducible refine' st_var ?e1 ?h1); (case e1=>exact rfl)))
local macro_rules | `(tactic| fail "tx")=>`(tactic| ((with_reducible refine' st_ixT ?s1 ?e1 ?h1); (case s1=>fail "sq"); (case e1=>exact rfl)))
local macro_rules | `(tactic| fail "tl")=>`(tactic| ((with_reducible refine' st_ixL ?s1 ?e1 ?h1); (case s1=>fail "sq"); (case e1=>first | assumption | exact rfl)))
local macro_rules | `(tactic| fail "tg")=>`(tactic| ((with_reducible refine' st_gtup ?s1 ?e1 ?h1); (case s1=>fail "sq"); (case e1=>exact rfl)))
local macro_rules | `(tactic| fail "ti")=>`(tactic| ((with_reducible refine st_i ?c1 ?h1); (case c1=>fail "sd")))
local macro_rules | `(tactic| fail "ts")=>`(tactic| ((with_reducible refine st_shl1 ?c1 ?h1); (case c1=>fail "sd")))
local macro_rules | `(tactic| fail "tm")=>`(tactic| ((with_reducible refine st_modN ?c1 ?h1); (case c1=>fail "sd"); intro _ _ _))
local macro_rules | `(tactic| fail "td")=>`(tactic| ((with_reducible refine st_divN ?c1 ?c2 ?h1); (case c1=>fail "sd"); (case c2=>fail "sd")))
local macro_rules | `(tactic| fail "tz")=>`(tactic| ((with_reducible refine st_size ?c1 ?h1); (case c1=>exact rfl)))
local macro_rules | `(tactic| fail "sl")=>`(tactic| ((with_reducible refine' st_slL ?s1 ?h1); (case s1=>fail "sq")))
local macro_rules | `(tactic| fail "n2")=>`(tactic| ((with_reducible first | refine' rNeD_2 ?s1 ?s2 ?h1 | refine' rEqD_2 ?s1 ?s2 ?h1 | refine' rNeD_3 ?s1 ?s2 ?h1 | refine' rEqD_3 ?s1 ?s2 ?h1); (case s1=>fail "sq"); (case s2=>fail "sq")))
local macro_rules | `(tactic| fail "sm")=>`(tactic| first | (with_reducible assumption) | exact a1u.refl _ | (with_reducible refine' a1u.updR ?s1 ?s2; (case s2=>with_reducible assumption); (case s1=>fail "sm")) | (with_reducible refine' a1u.trans ?s1 ?s2; (case s2=>with_reducible assumption); (case s1=>fail "sm")))
local macro_rules | `(tactic| fail "is")=>`(tactic| ((with_reducible refine' st_isi ?s1 ?s2 ?h1); (case s1=>first | exact b2q.bl _ | exact b2q.int _ | exact b2q.str _ | exact b2q.non | exact b2q.tup a0c | exact b2q.lst a0c | (with_reducible refine' b2q.tup ?e9; (case e9=>fail "la")) | (with_reducible refine' b2q.lst ?e9; (case e9=>fail "la")) | exact b2q.dK a0c); (case s2=>first | exact a7m | exact a6j | exact kit_NoneType_str | exact kit_NoneType_tuple | exact kit_NoneType_list | exact kit_NoneType_dict | exact b1y | exact b0n | exact kit_bool_str | exact kit_bool_tuple | exact kit_bool_list | exact kit_bool_dict | exact b4s | exact b2f | exact kit_int_str | exact kit_int_tuple | exact kit_int_list | exact kit_int_dict | exact b4h | exact b1w | exact kit_str_str | exact kit_str_tuple | exact kit_str_list | exact kit_str_dict | exact kit_list_int | exact kit_list_bool | exact kit_list_str | exact kit_list_tuple | exact b7z | exact kit_list_dict | exact kit_tuple_int | exact kit_tuple_bool | exact kit_tuple_str | exact b4g | exact kit_tuple_list | exact kit_tuple_dict | exact kit_dict_int | exact kit_dict_bool | exact kit_dict_str | exact kit_dict_tuple | exact kit_dict_list | exact kit_dict_dict)))
local macro_rules | `(tactic| fail "h0")=>`(tactic| first | with_reducible refine st_andS ?_ | with_reducible refine st_andB ?_ | with_reducible refine st_and1 ?_ | with_reducible refine st_chain ?_ | with_reducible refine st_dnew ?_ | with_reducible refine st_yes ?_ | ((with_reducible refine' st_lstT ?s1 ?h1); (case s1=>fail "sq")) | with_reducible refine st_raise ?_ | with_reducible refine st_try ?_ | ((with_reducible refine st_shlB ?c1 ?h1); (case c1=>omega)) | ((with_reducible refine' st_in01 ?s1 ?c1 ?h1); (case s1=>fail "sq"); (case c1=>omega)))
local macro_rules | `(tactic| fail "h1")=>`(tactic| with_reducible first | refine st_seq ?_ | refine st_asg ?_ | refine st_gname ?_ | refine st_op ?_ | refine st_c ?_ | refine st_if ?_ | refine st_ret ?_ | refine st_test ?_ | refine st_bl ?_ | refine st_cons ?_ | refine st_nil ?_ | refine st_call ?_ | refine st_tup ?_ | refine st_and ?_ | refine st_or ?_ | refine st_not ?_ | refine st_andN ?_ | refine st_orN ?_ | refine st_xorN ?_ | refine st_bit ?_ | refine b8a ?_ | refine st_shrN ?_ | refine st_eqi ?_ | refine st_nei ?_ | refine st_eqb ?_ | refine st_neb ?_ | refine st_eqs ?_ | refine st_nes ?_ | refine st_cb ?_ | refine st_lst ?_ | refine st_next ?_ | refine st_retN ?_ | refine st_drop ?_ | refine st_gcons ?_ | refine st_gnil ?_ | refine st_un ?_ | refine st_u ?_ | refine st_tB ?_ | refine st_andV ?_ | refine st_orV ?_ | refine st_notV ?_ | refine st_ifE ?_ | refine st_part ?_ | refine st_int ?_ | refine st_nopart ?_ | refine st_sl ?_)
local macro_rules | `(tactic| fail "h2")=>`(tactic| first | with_reducible refine st_bm0 ?_ | with_reducible refine st_bm ?_ | with_reducible refine st_tyI ?_ | with_reducible refine st_tyS ?_ | with_reducible refine st_bitlen ?_ | ((with_reducible refine' st_tyL ?s1 ?h1); (case s1=>fail "sq")) | ((with_reducible refine' st_lenL ?s1 ?h1); (case s1=>fail "sq")) | ((with_reducible refine' st_lenT ?s1 ?h1); (case s1=>fail "sq")) | ((with_reducible refine' st_cat ?s1 ?s2 ?s3 ?h1); (case s1=>fail "la"); (case s2=>fail "la"); (case s3=>first | omega | (simp only [List.length_append,List.length_map,List.length_cons,List.length_nil]; omega))) | ((with_reducible refine' st_append ?s1 ?s2 ?h1); (case s1=>fail "la"); (case s2=>first | omega | (simp only [List.length_append,List.length_map,List.length_cons,List.length_nil]; omega))))
local macro_rules | `(tactic| fail "go")=>`(tactic| repeat (first | fail "tv" | fail "h0" | fail "h1" | fail "tx" | fail "tl" | fail "ts" | fail "tm" | fail "td" | fail "ti" | fail "tz" | fail "tg" | fail "sl" | fail "n2" | fail "is" | fail "h2" | with_reducible refine iteT ?_ | with_reducible refine iteF ?_ | with_reducible refine iteNT ?_ | with_reducible refine iteNF ?_ | with_reducible refine (fun (p:Addr) (hp:_=none)=>?_:∀ p:Addr,_=none->_) | dsimp only [Bool.not_true,Bool.not_false]))
local macro_rules | `(tactic| fail "h2")=>`(tactic| with_reducible first | refine st_fld ?_ | refine st_put ?_ | refine st_make ?_ | refine st_md ?_ | refine st_intB ?_)
local macro_rules | `(tactic| fail "tx")=>`(tactic| ((with_reducible refine' st_ixT ?s1 ?e1 ?h1); (case s1=>fail "sq"); (case e1=>first | exact at0 _ _ | exact at1 _ _ _)))
local macro_rules | `(tactic| fail "h0")=>`(tactic| with_reducible first | refine st_xorBB ?_ | refine st_xorNB ?_ | refine st_sub1B ?_)
local macro_rules | `(tactic| fail "kw1")=>`(tactic| first | ((with_reducible refine' ite_t ?e9 ?h9); (case e9=>decide +kernel)) | ((with_reducible refine' ite_f ?e9 ?h9); (case e9=>decide +kernel)))
local macro_rules | `(tactic| fail "kw")=>`(tactic| (fail "go"; repeat (fail "kw1"; fail "go")))
theorem hu_of64 {A:Around}(hr:a9v k A):A.units + 64 < cLine:=hr.units
inductive SK where
 | span
local macro_rules | `(tactic| fail "sc")=>`(tactic| exact ⟨rfl,rfl,rfl,by decide +kernel,rfl,by decide +kernel,by decide +kernel⟩)
def top (i:Nat):Stmt:=PySem.Challenge.pw_twinwires_k68_whole_lines_of_a_whole.main.body.getD i (.Pass ⟨0,0,0,0⟩)
abbrev a9k:Stmt:=b8m (top 21) 4
theorem sc_Span_rank:a0s ["self"] ["self"] (a0k a9k):=by fail "sc"
abbrev a5t:Stmt:=b8m (top 21) 2
theorem a1k:a0s ["self","number","which","left","lead","total","parts"] ["self","number","which"] (a0k a5t):=by fail "sc"
abbrev a7z:Stmt:=top 4
theorem b6h:a0s ["number"] ["number"] (a0k a7z):=by fail "sc"
abbrev a9p:Stmt:=b8m (top 21) 1
theorem b2h:a0s ["self","number","left"] ["self","number"] (a0k a9p):=by fail "sc"
abbrev a5a:Stmt:=b8m (top 21) 0
theorem a7k:a0s ["self","numbers","number"] ["self","numbers"] (a0k a5a):=by fail "sc"
abbrev s_ones:Stmt:=top 3
theorem b4p:a0s ["number","found","rest"] ["number"] (a0k s_ones):=by fail "sc"
abbrev a7a:Stmt:=top 17
theorem a8w:a0s ["one","other","crossings"] ["one","other"] (a0k a7a):=by fail "sc"
abbrev a3b:Stmt:=top 18
theorem b0a:a0s ["rows"] ["rows"] (a0k a3b):=by fail "sc"
abbrev a9q:Stmt:=top 22
theorem sc_are_apart:a0s ["numbers"] ["numbers"] (a0k a9q):=by fail "sc"
abbrev s_fits:Stmt:=top 16
theorem sc_fits:a0s ["number","n"] ["number","n"] (a0k s_fits):=by fail "sc"
abbrev a3u:Stmt:=top 2
theorem b0t:a0s ["thing"] ["thing"] (a0k a3u):=by fail "sc"
abbrev a4u:Stmt:=top 14
theorem a8z:a0s ["thing","n"] ["thing","n"] (a0k a4u):=by fail "sc"
abbrev b7s:Stmt:=top 15
theorem sc_is_row:a0s ["thing","n"] ["thing","n"] (a0k b7s):=by fail "sc"
abbrev a5u:Stmt:=top 19
theorem b3f:a0s ["row","n"] ["row","n"] (a0k a5u):=by fail "sc"
abbrev a3j:Stmt:=top 24
theorem a5x:a0s ["rows","n"] ["rows","n"] (a0k a3j):=by fail "sc"
abbrev a6q:Stmt:=top 28
theorem a5y:a0s ["wires","n","place","k"] ["wires","n"] (a0k a6q):=by fail "sc"
abbrev b1n:Stmt:=top 26
theorem sc_at_wires:a0s ["row","wires"] ["row","wires"] (a0k b1n):=by fail "sc"
abbrev b0k:Stmt:=top 27
theorem a9y:a0s ["rows","wires","n","mask","cut"] ["rows","wires","n"] (a0k b0k):=by fail "sc"
abbrev a7b:Stmt:=top 31
theorem a1h:a0s ["_law_cell","_law_many","_law_found","_law_rest","_law_k","_law_number"] ["_law_cell","_law_many"] (a0k a7b):=by fail "sc"
abbrev a9r:Stmt:=top 32
theorem a4b:a0s ["_law_cell","_law_n","_law_x","_law_j","_law_k","_law_kind"] ["_law_cell","_law_n"] (a0k a9r):=by fail "sc"
abbrev b1m:Stmt:=top 36
theorem b3n:a0s ["_law_found","_law_b","_law_re","_law_im","_law_old"] ["_law_found","_law_b","_law_re","_law_im"] (a0k b1m):=by fail "sc"
abbrev a8a:Stmt:=top 35
theorem a7h:a0s ["_law_words","_law_b","_law_j","_law_turn"] ["_law_words","_law_b"] (a0k a8a):=by fail "sc"
abbrev a9j:Stmt:=top 37
theorem a2k:a0s ["_law_words","_law_numbers","_law_found","_law_j","_law_b","_law_re","_law_im","_law_down"] ["_law_words","_law_numbers"] (a0k a9j):=by fail "sc"
abbrev a5w:Stmt:=top 30
theorem b3k:a0s ["_law_script","_law_k"] ["_law_script","_law_k"] (a0k a5w):=by fail "sc"
abbrev b5a:Stmt:=top 33
theorem a1x:a0s ["_law_words","_law_row","_law_minus","_law_xs","_law_zs","_law_j","_law_x","_law_z","_law_k","_law_a","_law_b"] ["_law_words","_law_row"] (a0k b5a):=by fail "sc"
abbrev a7d:Stmt:=top 34
theorem a5r:a0s ["_law_work","_law_row","_law_words"] ["_law_work","_law_row"] (a0k a7d):=by fail "sc"
abbrev b3r:Stmt:=top 38
theorem sc__law_by:a0s ["_law_one","_law_other"] ["_law_one","_law_other"] (a0k b3r):=by fail "sc"
abbrev a5z:Stmt:=top 39
theorem a1y:a0s ["_law_line","_law_lead","_law_at","_law_found","_law_mine","_law_yours","_law_one","_law_other"] ["_law_line","_law_lead","_law_at"] (a0k a5z):=by fail "sc"
abbrev a3a:Stmt:=top 40
theorem a1a:a0s ["_law_table","_law_many","_law_rest","_law_at","_law_here","_law_lead"] ["_law_table"] (a0k a3a):=by fail "sc"
abbrev a7f:Stmt:=top 41
theorem a2v:a0s ["_law_number","_law_wires","_law_found","_law_k","_law_wire"] ["_law_number","_law_wires"] (a0k a7f):=by fail "sc"
abbrev b1j:Stmt:=top 42
theorem a4n:a0s ["_law_script","_law_n","_law_work","_law_numbers","_law_words","_law_x","_law_wires","_law_others","_law_table","_law_one","_law_line","_law_other","_law_found"] ["_law_script"] (a0k b1j):=by fail "sc"
structure Txt_S (K:PySem.W.Frag)(b1q:SK->Addr):Prop where
 cl:∀ d,Cls K (b1q d)
 n_sums:∀ d,a7n K (b1q d) "sums"
 n_taken:∀ d,a7n K (b1q d) "taken"
def b0e (a3c:Addr):SK->Addr
 | .span=>a3c
def b1t (K:PySem.W.Frag):Sp:=fun vs H Q _=>∃ (c:Int) (n:Nat),vs=[.int c,.int n]/\0 < n/\n <= 40/\∀ p H' (d:Dd),a1u H H'->Wt H' p d->d.Ok n->Q (.ref p) H'
def b6d (K:PySem.W.Frag):Sp:=fun vs H Q _=>∃ (w a:Addr) (d:Dd) (n:Nat) (r:Row),vs=[.ref w,.ref a]/\Wt H w d/\d.Ok n/\n <= 40/\H a=some (.tup r.V)/\∀ p H',a1u H H'->H' p=some (.tup (act d r).V)->Q (.ref p) H'
def a8v (K:PySem.W.Frag):Sp:=fun vs H Q _=>∃ (l a:Addr) (n:Nat) (as:List Addr) (ds:List Dd) (r:Row),vs=[.ref l,.ref a]/\SqL K H l (a1q as)/\a5d (Wt H) as ds/\(∀ d ∈ ds,d.Ok n)/\n <= 40/\H a=some (.tup r.V)/\∀ p H',a1u H H'->H' p=some (.tup (b0w ds r).V)->Q (.ref p) H'
theorem ne_mod {n t:Nat}(hj:j < n)(h1:1 <= t)(h2:t < n):(j + t) % n ≠ j:=by
 rcases Nat.lt_or_ge (j + t) n with h | h
 ·rw [Nat.mod_eq_of_lt h];omega
 ·rw [Nat.mod_eq_sub_mod h,Nat.mod_eq_of_lt (by omega)];omega
theorem ne_modI {n:Nat}{r:Int}(hj:j < n)(h0:0 <= r)(h2:r < (n:Int) - 1)(e:((j:Int) + 1 + r) % (n:Int) = (i:Int)):j ≠ i:=by
 obtain ⟨t,rfl⟩:∃ t:Nat,r=(t:Int):=⟨r.toNat,by omega⟩
 have e2:((j + (1 + t)) % n:Nat) = i:=by
  have e3:(j:Int) + 1 + (t:Int) = ((j + (1 + t):Nat):Int):=by push_cast; omega
  rw [e3,<- Int.natCast_emod] at e;exact Int.ofNat_inj.mp e
 intro z;exact ne_mod hj (by omega) (by omega) (e2.trans z.symm)
theorem wh_bit (m:Nat)(a b c:Bool):Builtin.bitXor (m:Int) (Builtin.bitAnd (bI a) (Builtin.bitXor (Builtin.bitXor 1 (bI b)) (bI c))) = ((m ^^^ (a && !(c ^^ b)).toNat:Nat):Int):=by
 have e:Builtin.bitAnd (bI a) (Builtin.bitXor (Builtin.bitXor 1 (bI b)) (bI c)) = (((a && !(c ^^ b)).toNat:Nat):Int):=by cases a <;> cases b <;> cases c <;> decide +kernel
 rw [e,a8m]
theorem ex_turn (n i j:Nat):n ^^^ (n.testBit j ^^ n.testBit i).toNat * 2 ^ j ^^^ (n.testBit j ^^ n.testBit i).toNat * 2 ^ i=ex n i j:=by
 unfold ex;rw [Bool.xor_comm,Nat.xor_assoc,Nat.xor_comm (_ * 2 ^ j),<- Nat.xor_assoc]
def k8:Nat->DK
 | 0=>.over | 1=>.quarter | 2=>.back | 3=>.both | 4=>.both | 5=>.wher | 6=>.wher | _=>.swap
theorem at_k8 {m:Nat}(h:m < 8):atI [V.str "over",.str "quarter",.str "back",.str "both",.str "both",.str "where",.str "where",.str "swap"] (m:Int) = some (.str (k8 m).word):=by
 match m,h with
 | 0,_=>rfl | 1,_=>rfl | 2,_=>rfl | 3,_=>rfl | 4,_=>rfl | 5,_=>rfl | 6,_=>rfl | 7,_=>rfl
theorem in_two (k:DK):inV (.str k.word) [V.str "where",.str "swap"] = decide (k.n=2):=by cases k <;> decide +kernel
theorem len1I (h:l.length=1):∃ x,l=[x]:=by
 match l,h with
 | [x],_=>exact ⟨x,rfl⟩
theorem vn_at {l:List Nat}{x:V}(h:(vn l)[i]? = some x):∃ k:Nat,x=.int k/\l[i]? = some k:=by
 unfold vn at h;rw [List.getElem?_map] at h
 cases e:l[i]? with
 | none=>rw [e] at h; cases h
 | some k=>rw [e] at h; exact ⟨k,(Option.some.inj h).symm,rfl⟩
theorem vn_app (a b:List Nat):vn a ++ vn b=vn (a ++ b):=by unfold vn; rw [List.map_append]
def a8k (K:PySem.W.Frag):Sp:=fun vs H Q _=>∃ (a:Addr) (k:Nat) (ns:List Int),vs=[.ref a,.int k]/\SqL K H a (ns.map V.int)/\∀ c:Int,c=ns.getD k 0->Q (.int c) H
def a9a (K:PySem.W.Frag):Sp:=fun vs H Q _=>∃ (c:Int) (m:Nat),vs=[.int c,.int m]/\m <= 100/\∀ p H' (ns:List Int),a1u H H'->H' p=some (.lst (ns.map V.int))->ns.length=m->(∀ x ∈ ns,0 <= x)->Q (.ref p) H'
def Sm3 (H:Hp)(a:Addr)(s:Sm):Prop:=H a=some (.tup [.int ((2 ^ s.j:Nat):Int),.int (s.t:Int),.int (s.p:Int)])
def a6e (l:Addr)(t:Int):List (Str × V):=[("sums",.ref l),("taken",.int t)]
def SnAt (CD:SK->Addr)(H:Hp)(p l:Addr)(vs:List Nat)(ss:List Sm):Prop:=∃ dx as,H p=some (.ins (CD .span) dx (a6e l (vs.length:Nat)))/\H l=some (.lst (a1q as))/\a5d (Sm3 H) as ss/\SpOk vs ss/\ss.length <= vs.length
def Oth (p l:Addr)(H H':Hp):Prop:=∀ c o,c ≠ p->c ≠ l->H c=some o->H' c=some o
def a7s (K:PySem.W.Frag)(CD:SK->Addr):Sp:=fun vs H Q _=>∃ (p l:Addr) (x w:Nat) (us:List Nat) (ss:List Sm),vs=[.ref p,.int x,.int w]/\SnAt CD H p l us ss/\us.length <= 100/\∀ q H',a1u H H'->H' q=some (.tup [.int ((red ss x w).1:Int),.int ((red ss x w).2:Int)])->Q (.ref q) H'
abbrev b2b (K:PySem.W.Frag)(CD:SK->Addr)(_:SK):Sp:=a7s K CD
def b2d (K:PySem.W.Frag)(CD:SK->Addr):Sp:=fun vs H Q _=>∃ (p l:Addr) (x:Nat) (us:List Nat) (ss:List Sm),vs=[.ref p,.int x]/\SnAt CD H p l us ss/\us.length <= 100/\∀ H' ss',Oth p l H H'->SnAt CD H' p l (us ++ [x]) ss'->Q .non H'
abbrev sp_S_take (K:PySem.W.Frag)(CD:SK->Addr)(_:SK):Sp:=b2d K CD
def a4k (K:PySem.W.Frag)(CD:SK->Addr):Sp:=fun vs H Q _=>∃ (p n dx:Addr) (us:List Nat),vs=[.ref p,.ref n]/\H p=some (.ins (CD .span) dx [])/\H n=some (.lst (vn us))/\us.length <= 100/\∀ H' l ss,(∀ c o,c ≠ p->H c=some o->H' c=some o)->H l=none->SnAt CD H' p l us ss->Q .non H'
def sp_ones (K:PySem.W.Frag):Sp:=fun vs H Q _=>∃ n:Nat,vs=[.int n]/\Q (.int (pop n:Nat)) H
def b0b (K:PySem.W.Frag):Sp:=fun vs H Q _=>∃ v:Nat,vs=[.int v]/\0 < v/\∀ j:Nat,v.testBit j=true->(∀ i:Nat,i < j->v.testBit i=false)->Q (.int ((2 ^ j:Nat):Int)) H
def a8y (K:PySem.W.Frag):Sp:=fun vs H Q _=>∃ (a b:Addr) (r q:Row),vs=[.ref a,.ref b]/\SqT K H a r.V/\SqT K H b q.V/\Q (.bl (decide (pop (crs r q) % 2=0))) H
def a8g (K:PySem.W.Frag):Sp:=fun vs H Q _=>∃ (a:Addr) (n:Nat) (r:Row),vs=[.ref a,.int n]/\SqT K H a r.V/\r.x < 2 ^ n/\r.z < 2 ^ 40/\n <= 40/\Q (.int ((r.x ^^^ r.z * 2 ^ n:Nat):Int)) H
def b1u (K:PySem.W.Frag)(CD:SK->Addr):Sp:=fun vs H Q _=>∃ (p l:Addr) (us:List Nat) (ss:List Sm),vs=[.ref p]/\SnAt CD H p l us ss/\us.length <= 100/\Q (.int (ss.length:Nat)) H
abbrev sp_S_rank (K:PySem.W.Frag)(CD:SK->Addr)(_:SK):Sp:=b1u K CD
def sp_fits (K:PySem.W.Frag):Sp:=fun vs H Q _=>∃ (x:Int) (n:Nat),vs=[.int x,.int n]/\n <= 1000/\Q (.bl (decide (0 <= x/\x < ((2 ^ n:Nat):Int)))) H
def a9b (K:PySem.W.Frag):Sp:=fun vs H Q _=>∃ (a:Addr) (n:Nat) (r:Row),vs=[.ref a,.int n]/\H a=some (.tup r.V)/\r.Ok n/\n <= 40/\∀ H',a1u H H'->Q (.ref a) H'
def sp_is_row (K:PySem.W.Frag):Sp:=fun vs H Q _=>∃ (a:Addr) (n:Nat) (r:Row),vs=[.ref a,.int n]/\H a=some (.tup r.V)/\r.Ok n/\n <= 40/\∀ H',a1u H H'->Q (.bl true) H'
def bsd (rs:List Row)(k:Nat):Bool:=((rs.take k).map fun s=>!a4z (rs.getD k ⟨0,0,0⟩) s).all id
def allB (rs:List Row):Bool:=((List.range rs.length).map (bsd rs)).all id
def a9z (K:PySem.W.Frag):Sp:=fun vs H Q _=>∃ (l:Addr) (as:List Addr) (rs:List Row),vs=[.ref l]/\H l=some (.lst (a1q as))/\a5d (Rt K H) as rs/\as.length <= 100/\∀ H',a1u H H'->Q (.bl (allB rs)) H'
def b2g (K:PySem.W.Frag):Sp:=fun vs H Q _=>∃ (l:Addr) (us:List Nat),vs=[.ref l]/\H l=some (.lst (vn us))/\us.length <= 100/\∀ H' ss,a1u H H'->SpOk us ss->ss.length <= us.length->Q (.bl (decide (ss.length=us.length))) H'
def a9d (K:PySem.W.Frag)(C:Addr):Sp:=fun vs H Q E=>∃ (l:Addr) (n:Nat) (as:List Addr) (rs:List Row),vs=[.ref l,.int n]/\H l=some (.lst (a1q as))/\a5d (Rt K H) as rs/\(∀ r ∈ rs,r.Ok n)/\as.length <= 100/\n <= 40/\(∀ H',a1u H H'->Gd n rs->Q .non H')/\(∀ H',a1u H H'->¬ Whl n rs->E (.ref C) none H')
theorem Row.Ok.to40 {r:Row}{n:Nat}(h:r.Ok n)(hn:n <= 40):r.Ok 40:=⟨h.m,Nat.lt_of_lt_of_le h.x (Nat.pow_le_pow_right (by decide) hn),Nat.lt_of_lt_of_le h.z (Nat.pow_le_pow_right (by decide) hn)⟩
theorem b6s:∀ (a:List Sm) (s:Sm) (l w:Nat),red (a ++ [s]) l w=if (red a l w).1.testBit s.j=true then ((red a l w).1 ^^^ s.t,(red a l w).2 ^^^ s.p) else red a l w
 | [],s,l,w=>by
  show (if l.testBit s.j=true then (l ^^^ s.t,w ^^^ s.p) else (l,w)) = _;rfl
 | u :: a,s,l,w=>by
  rw [List.cons_append];unfold red
  split
  ·exact b6s a s _ _
  ·exact b6s a s _ _
theorem red_at {s:Sm}(x w:Nat)(h:ss[i]? = some s):red (ss.take (i + 1)) x w=if (red (ss.take i) x w).1.testBit s.j=true then ((red (ss.take i) x w).1 ^^^ s.t,(red (ss.take i) x w).2 ^^^ s.p) else red (ss.take i) x w:=by
 rw [a0q h,b6s]
theorem and_pow_ne (l j:Nat):(((l &&& 2 ^ j:Nat):Int) = 0) = (l.testBit j=false):=by
 rw [b1k];cases l.testBit j
 ·simp
 ·have h:=Nat.two_pow_pos j;apply propext
  constructor
  ·intro z;rw [Bool.toNat_true,Nat.one_mul] at z;omega
  ·intro z;cases z
theorem b4n (l:Addr)(t:Int):(a6e l t).lookup ("sums":Str) = some (.ref l):=rfl
theorem b6b (l:Addr)(t:Int):(a6e l t).lookup ("taken":Str) = some (.int t):=by
 have h1:(("taken":Str) == "sums") = false:=by decide +kernel
 unfold a6e;rw [List.lookup_cons,h1];rfl
theorem b8g (l:Addr)(t:Int){m:Str}(h1:(m == "sums") = false)(h2:(m == "taken") = false):(a6e l t).lookup m=none:=by
 unfold a6e;rw [List.lookup_cons,h1,List.lookup_cons,h2];rfl
theorem taken_put (l:Addr)(t u:Int):b3j "taken" (.int u) (a6e l t) = a6e l u:=by
 have h1:¬ (("sums":Str) = "taken"):=by decide +kernel
 simp only [a6e,b3j,if_neg h1];rfl
theorem first_put (l:Addr)(t:Int):b3j "taken" (.int t) (b3j "sums" (.ref l) []) = a6e l t:=by
 have h1:¬ (("sums":Str) = "taken"):=by decide +kernel
 simp only [a6e,b3j,if_neg h1]
theorem or_sn {z n:Nat}(h:x < 2 ^ n):x ||| z * 2 ^ n=x ^^^ z * 2 ^ n:=by
 have h3:x &&& z * 2 ^ n=0:=by
  apply Nat.eq_of_testBit_eq;intro i;rw [Nat.testBit_and,<- Nat.shiftLeft_eq,Nat.testBit_shiftLeft,Nat.zero_testBit]
  rcases Nat.lt_or_ge i n with hi | hi
  ·simp [Nat.not_le.2 hi]
  ·rw [Nat.testBit_lt_two_pow (Nat.lt_of_lt_of_le h (Nat.pow_le_pow_right (by decide) hi))];rfl
 have:=a2x x (z * 2 ^ n);omega
theorem bes_dec (r q:Row):decide (pop (crs r q) % 2=0) = !a4z r q:=by
 unfold crs;have h:=symp_pop r q;cases e:a4z r q
 ·rw [decide_eq_true (h.1 e)]; rfl
 ·rw [decide_eq_false fun z=>by rw [h.2 z] at e; cases e]; rfl
theorem xsel_mod:∀ (vs:List Nat) (m:Nat),a0u vs (m % 2 ^ vs.length) = a0u vs m
 | [],_=>rfl
 | v :: vs,m=>by
  show (if (m % 2 ^ (vs.length + 1)).testBit 0=true then v else 0) ^^^ a0u vs (m % 2 ^ (vs.length + 1) / 2) = (if m.testBit 0=true then v else 0) ^^^ a0u vs (m / 2);have h1:(m % 2 ^ (vs.length + 1)).testBit 0=m.testBit 0:=by rw [Nat.testBit_mod_two_pow]; simp
  have h2:m % 2 ^ (vs.length + 1) / 2=(m / 2) % 2 ^ vs.length:=by
   rw [Nat.pow_succ,Nat.mul_comm,Nat.mod_mul_right_div_self]
  rw [h1,h2,xsel_mod vs]
theorem Tot.spn (h:Tot ss x):Spn (ss.map Sm.t) x:=by
 obtain ⟨m,rfl⟩:=h;exact ⟨m % 2 ^ (ss.map Sm.t).length,Nat.mod_lt _ (Nat.two_pow_pos _),xsel_mod _ _⟩
theorem Wl.apart {ds:List Dd}{n:Nat}(hds:∀ d ∈ ds,d.Ok n)(h:Wl ds n rs)(ok:SpOk (rs.map (sn n)) ss)(hz:ss.length <= (rs.map (sn n)).length):ss.length=(rs.map (sn n)).length:=by
 refine Nat.le_antisymm hz ?_
 have h1:=sp_many (l:=ss.map Sm.t) (fun v=>sn n (im ds v)) (fun a b ha hb e=>snim_inj hds ha hb e) (fun v hv=>by
  obtain ⟨m,_,e⟩:=h.sp v hv;show Spn _ (sn n (im ds v));rw [<- e]
  exact (ok.cov m).spn)
 rw [List.length_map] at h1 ⊢;rw [h.len];exact h1
theorem all_rep:∀ i:Nat,(List.replicate i true).all id=true
 | 0=>rfl
 | i + 1=>by rw [List.replicate_succ,List.all_cons,all_rep i]; rfl
theorem bI1 (b:Bool):decide (bI b=1) = b:=by cases b <;> decide
theorem allB_true (h:∀ r ∈ rs,∀ s ∈ rs,a4z r s=false):allB rs=true:=by
 unfold allB;rw [List.all_eq_true];intro b hb;obtain ⟨k,hk,rfl⟩:=List.mem_map.1 hb;have hk':=List.mem_range.1 hk;show bsd rs k=true;unfold bsd;rw [List.all_eq_true];intro c hc;obtain ⟨s,hs,rfl⟩:=List.mem_map.1 hc;have e:rs.getD k ⟨0,0,0⟩ = rs[k]:=by rw [List.getD_eq_getElem?_getD,List.getElem?_eq_getElem hk']; rfl
 show (!a4z (rs.getD k ⟨0,0,0⟩) s) = true;rw [e,h _ (List.getElem_mem _) s (List.mem_of_mem_take hs)];rfl
theorem at_gd {ns:List Int}(h:k < ns.length):atI (ns.map V.int) (k:Int) = some (.int (ns.getD k 0)):=by
 refine b3q ?_;rw [List.getElem?_map,List.getElem?_eq_getElem h,List.getD_eq_getElem?_getD,List.getElem?_eq_getElem h];rfl
theorem len1P (h:l.length=1)(h0:∀ x ∈ l,0 <= x):∃ x:Nat,l=[(x:Int)]:=by
 match l,h with
 | [x],_=>exact ⟨x.toNat,by rw [Int.toNat_of_nonneg (h0 x (by simp))]⟩
theorem allB_com (h:allB rs=true):∀ r ∈ rs,∀ s ∈ rs,a4z r s=false:=by
 have key:∀ i j,j < i->∀ (hi:i < rs.length) (hj:j < rs.length),a4z rs[i] rs[j] = false:=fun i j hji hi hj=>by
  unfold allB at h;rw [List.all_eq_true] at h;have h1:=h (bsd rs i) (List.mem_map.2 ⟨i,List.mem_range.2 hi,rfl⟩);have h1':bsd rs i=true:=h1;unfold bsd at h1';rw [List.all_eq_true] at h1';have e:rs.getD i ⟨0,0,0⟩ = rs[i]:=by rw [List.getD_eq_getElem?_getD,List.getElem?_eq_getElem hi]; rfl
  have h2:=h1' (!a4z (rs.getD i ⟨0,0,0⟩) rs[j]) (List.mem_map.2 ⟨rs[j],List.mem_of_getElem? (i:=j) (by rw [List.getElem?_take_of_lt hji,List.getElem?_eq_getElem hj]),rfl⟩);rw [e] at h2
  simpa using h2
 intro r hr s hs;obtain ⟨i,hi,rfl⟩:=List.getElem_of_mem hr;obtain ⟨j,hj,rfl⟩:=List.getElem_of_mem hs
 rcases Nat.lt_trichotomy i j with c | c | c
 ·rw [a6d]; exact key j i c hj hi
 ·subst c; exact symp_self _
 ·exact key i j c hi hj
theorem Whl.gd {n:Nat}(h:Whl n rs):(∀ r ∈ rs,r.Ok n)/\(∀ r ∈ rs,∀ s ∈ rs,a4z r s=false)/\rs.length=n:=by
 obtain ⟨ds,hds,w⟩:=h;exact ⟨fun r hr=>(w.wh r hr).ok hds,fun r hr s hs=>(w.wh r hr).com hds (w.wh s hs),w.len⟩
def b4r (K:PySem.W.Frag):Sp:=fun vs H Q _=>∃ (a:Addr) (r:Row) (w:Nat),vs=[.ref a,.int w]/\SqT K H a r.V/\∀ p,H p=none->Q (.ref p) (upd H p (.tup (⟨r.m,r.x &&& w,r.z &&& w⟩:Row).V))
local macro_rules | `(tactic| fail "h2")=>`(tactic| ((with_reducible refine' st_appendB ?s1 ?s2 ?h1); (case s1=>fail "la"); (case s2=>first | omega | (simp only [List.length_append,List.length_map,List.length_cons,List.length_nil]; omega))))
theorem low_bit2:∀ v:Nat,0 < v->∃ j,v - (v &&& (v - 1)) = 2 ^ j/\v.testBit j=true/\∀ i,i < j->v.testBit i=false:=by
 intro v
 induction v using Nat.strongRecOn with
 | _ v ih=>
  intro hv
  by_cases h:v % 2=1
  ·refine ⟨0,?_,by rw [Nat.testBit_zero]; simpa using h,fun i hi=>absurd hi (Nat.not_lt_zero i)⟩
   have e:v &&& (v - 1) = v - 1:=by
    have h1:(v &&& (v - 1)) / 2=(v - 1) / 2:=by
     rw [b0q,show v / 2=(v - 1) / 2 by omega,Nat.and_self]
    have h2:(v &&& (v - 1)) % 2=0:=by
     rw [b7v,show (v - 1) % 2=0 by omega,Nat.mul_zero]
    omega
   rw [e];show v - (v - 1) = 1;omega
  ·obtain ⟨j,e,b,lo⟩:=ih (v / 2) (by omega) (by omega);refine ⟨j + 1,?_,by rw [Nat.testBit_succ]; exact b,fun i hi=>?_⟩
   ·have h1:(v &&& (v - 1)) / 2=v / 2 &&& (v / 2 - 1):=by
     rw [b0q,show (v - 1) / 2=v / 2 - 1 by omega]
    have h2:(v &&& (v - 1)) % 2=0:=by
     rw [b7v,show v % 2=0 by omega,Nat.zero_mul]
    have h3:v / 2 &&& (v / 2 - 1) <= v / 2:=Nat.and_le_left;rw [Nat.pow_succ,<- e];omega
   ·cases i with
    | zero=>rw [Nat.testBit_zero]; simpa using h
    | succ i=>rw [Nat.testBit_succ]; exact lo i (by omega)
def GW (n:Nat)(ws:List Int):Prop:=ws.Nodup/\∀ k ∈ ws,0 <= k/\k < (n:Int)
theorem gw_nat {n:Nat}(h:GW n ws):∃ A:List Nat,ws=A.map (fun k:Nat=>(k:Int))/\A.Nodup/\∀ k ∈ A,k < n:=by
 have e:ws=(ws.map Int.toNat).map (fun k:Nat=>(k:Int)):=by
  rw [List.map_map]
  conv=>lhs; rw [<- List.map_id ws]
  refine List.map_congr_left fun k hk=>?_;have:=(h.2 k hk).1;show k=((k.toNat:Nat):Int);omega
 refine ⟨ws.map Int.toNat,e,?_,fun k hk=>?_⟩
 ·have:=h.1;rw [e] at this;exact List.Pairwise.of_map _ (fun a b z y=>z (by rw [y])) this
 ·obtain ⟨x,hx,rfl⟩:=List.mem_map.1 hk;have:=h.2 x hx;omega
theorem b6y (A:List Nat):(A.map (fun k:Nat=>(k:Int))).map V.int=vn A:=by
 rw [List.map_map];rfl
theorem inV_ints (k:Int):∀ w:List Int,inV (.int k) (w.map V.int) = decide (k ∈ w)
 | []=>rfl
 | x :: w=>by
  have ih:=inV_ints k w;unfold inV at ih ⊢;rw [List.map_cons,List.any_cons,ih]
  by_cases h:k=x
  ·subst h;simp [eqV]
  ·have h2:¬ (x=k):=fun z=>h z.symm;simp [eqV,h,h2]
theorem ints_fl:∀ w:List Int,(w.map V.int).all b1e=true
 | []=>rfl
 | x :: w=>by rw [List.map_cons,List.all_cons,ints_fl w]; rfl
theorem intAt {is:List Int}{j:Int}(e:(is.map V.int)[i]? = some (.int j)):is[i]? = some j:=by
 rw [List.getElem?_map] at e
 cases h:is[i]? with
 | none=>rw [h] at e; cases e
 | some x=>rw [h] at e; cases e; rfl
theorem gw_snoc {n:Nat}{k:Int}(h:GW n (ws.take i))(e:ws[i]? = some k)(h1:0 <= k)(h2:k < n)(h3:k ∉ ws.take i):GW n (ws.take (i + 1)):=by
 rw [a0q e];refine ⟨List.nodup_append.2 ⟨h.1,by simp,fun a ha b hb z=>h3 (by rw [List.mem_singleton.1 hb] at z; exact z ▸ ha)⟩,fun x hx=>?_⟩
 rcases List.mem_append.1 hx with z | z
 ·exact h.2 x z
 ·rw [List.mem_singleton.1 z]; exact ⟨h1,h2⟩
theorem gw_twice {n:Nat}{k:Int}(e:ws[i]? = some k)(h:k ∈ ws.take i):¬ GW n ws:=fun g=>by
 obtain ⟨j,hj⟩:=List.getElem?_of_mem h;rw [List.getElem?_take] at hj
 split at hj
 ·rename_i hji;have h1:=(List.getElem?_eq_some_iff.1 hj);have h2:=(List.getElem?_eq_some_iff.1 e);obtain ⟨a,ha⟩:=h1;obtain ⟨b,hb⟩:=h2;exact (List.pairwise_iff_getElem.1 g.1) j i a b hji (ha.trans hb.symm)
 ·cases hj
theorem cast_sum:∀ l:List Nat,(l.map fun k:Nat=>(k:Int)).sum=((l.sum:Nat):Int)
 | []=>rfl
 | x :: l=>by rw [List.map_cons,List.sum_cons,List.sum_cons,cast_sum l]; push_cast; rfl
local macro_rules | `(tactic| fail "gq")=>`(tactic| repeat (first | fail "tv" | fail "h0" | fail "h1" | fail "tx" | fail "tl" | fail "ts" | fail "tm" | fail "td" | fail "ti" | fail "tz" | fail "tg" | fail "sl" | fail "n2" | fail "is" | fail "h2" | with_reducible refine iteT ?_ | with_reducible refine iteF ?_ | with_reducible refine iteNT ?_ | with_reducible refine iteNF ?_ | dsimp only [Bool.not_true,Bool.not_false]))
theorem gw_good {n:Nat}(nd:A.Nodup)(h:∀ k ∈ A,k < n):GW n (A.map (fun k:Nat=>(k:Int))):=by
 refine ⟨List.Pairwise.map _ (fun a b z y=>z (by omega)) nd,fun k hk=>?_⟩;obtain ⟨j,hj,rfl⟩:=List.mem_map.1 hk;have:=h j hj;omega
theorem cast_inj {B:List Nat}(h:A.map (fun k:Nat=>(k:Int)) = B.map (fun k:Nat=>(k:Int))):A=B:=by
 induction A generalizing B with
 | nil=>
  cases B with
  | nil=>rfl
  | cons b B=>cases h
 | cons a A ih=>
  cases B with
  | nil=>cases h
  | cons b B=>
   rw [List.map_cons,List.map_cons,List.cons.injEq] at h;rw [ih h.2,show a=b by have:=h.1; omega]
def a8u (K:PySem.W.Frag)(C:Addr):Sp:=fun vs H Q E=>∃ (l:Addr) (n:Nat) (ws:List Int),vs=[.ref l,.int n]/\SqL K H l (ws.map V.int)/\ws.length <= 200/\(∀ H',a1u H H'->GW n ws->Q .non H')/\(∀ H',a1u H H'->¬ GW n ws->E (.ref C) none H')
def sp_common (K:PySem.W.Frag)(C CW:Addr):Sp:=fun vs H Q E=>∃ (l lw:Addr) (n:Nat) (as:List Addr) (rs:List Row) (ws:List Int),vs=[.ref l,.ref lw,.int n]/\H l=some (.lst (a1q as))/\a5d (Rt K H) as rs/\(∀ r ∈ rs,r.Ok n)/\as.length <= 100/\n <= 40/\SqL K H lw (ws.map V.int)/\ws.length <= 200/\
 (∀ H' k A,a1u H H'->Gd n rs->ws=A.map (fun k:Nat=>(k:Int))->A.Nodup->(∀ k ∈ A,k < n)->Rk n rs A k->Q (.int ((k:Int) - (A.length:Int))) H')/\(∀ H',a1u H H'->¬ Whl n rs->E (.ref C) none H')/\(∀ H',a1u H H'->Gd n rs->¬ GW n ws->E (.ref CW) none H')
theorem disp_at {p1 p2:Addr}{b:Nat}(h1:H p1=none)(h2:(upd H p1 (.dK [])) p2=none) :
  a1u H (upd (upd (upd H p1 (.dK [])) p2 (.tup [.int 1,.int 0])) p1 (.dK [(.inl ((b:Nat):Int),.ref p2)]))/\(upd (upd (upd H p1 (.dK [])) p2 (.tup [.int 1,.int 0])) p1 (.dK [(.inl ((b:Nat):Int),.ref p2)])) p1=some (.dK [(.inl ((b:Nat):Int),.ref p2)])/\
   WR K (upd (upd (upd H p1 (.dK [])) p2 (.tup [.int 1,.int 0])) p1 (.dK [(.inl ((b:Nat):Int),.ref p2)])) [(b,(1,0))] [(.inl ((b:Nat):Int),.ref p2)]:=by
 have hne:p2 ≠ p1:=Ne.symm (a0h a0c h2);refine ⟨fun c o e=>?_,a0c,.cons (SqT.of ?_) .nil⟩
 ·rw [a0m (a0h e h1)];exact a0e h2 _ _ _ (a0e h1 _ _ _ e)
 ·rw [a0m hne];exact a0c
local macro_rules | `(tactic| fail "h0")=>`(tactic| with_reducible first | refine st_dget2 ?_ | refine st_dput ?_)
theorem and_clr (b i:Nat):Builtin.bitAnd ((b:Nat):Int) (0 - 1 - ((2 ^ i:Nat):Int)) = ((clr b i:Nat):Int):=by
 have p:=Nat.two_pow_pos i;rw [PyProof.Rows.bitAnd_pn (by omega) (by omega),show Builtin.bitNot (0 - 1 - ((2 ^ i:Nat):Int)) = ((2 ^ i:Nat):Int) by show -(0 - 1 - ((2 ^ i:Nat):Int)) - 1=_; omega,Int.toNat_natCast,Int.toNat_natCast,b1k,clr_int]
theorem clrd_at {ys:List (Int × Int)}{x y:Int × Int}(hx:xs[i]? = some x)(hy:ys[i]? = some y):(clrd xs ys k)[i]? = some (psub (gm x (ys.getD k (0,0))) (gm y (xs.getD k (0,0)))):=by
 unfold clrd;rw [List.getElem?_zipWith,hx,hy]
theorem a8n {ts:List Addr}{t:Addr}(h:ts[k]? = some t):atI (a1q ts) (k:Int) = some (.ref t):=b3q (by unfold a1q; rw [List.getElem?_map,h]; rfl)
theorem getD_of {x:Int × Int}(h:xs[k]? = some x):xs.getD k (0,0) = x:=by rw [List.getD_eq_getElem?_getD,h]; rfl
theorem lb300 (h:p.1.natAbs < 2 ^ 206/\p.2.natAbs < 2 ^ 206):p.1.natAbs < 2 ^ 300/\p.2.natAbs < 2 ^ 300:=⟨Nat.lt_trans h.1 (by decide),Nat.lt_trans h.2 (by decide)⟩
theorem nz_dec {ln:List (Int × Int)}(h:ln[i]? = some p):b3d i ln= !decide ([p.1,p.2] = [(0:Int),0]):=by
 unfold b3d;rw [getD_of h];obtain ⟨a,b⟩:=p
 by_cases c:(a,b) = ((0,0):Int × Int)
 ·cases c;rfl
 ·have c2:¬ [a,b] = [(0:Int),0]:=fun z=>c (by cases z; rfl);rw [decide_eq_true c,decide_eq_false c2];rfl
theorem filt_snoc {α:Type}{p:α->Bool}{l:List α}{x:α}(h:l[j]? = some x):(l.take (j + 1)).filter p=(l.take j).filter p ++ if p x=true then [x] else []:=by
 rw [a0q h,List.filter_append]
 congr 1
 cases c:p x with
 | true=>rw [List.filter_cons_of_pos c,if_pos rfl,List.filter_nil]
 | false=>rw [List.filter_cons_of_neg (by rw [c]; decide),if_neg (by decide),List.filter_nil]
theorem filt_len {α:Type}{p:α->Bool}{l:List α}(j:Nat):((l.take j).filter p).length <= j:=Nat.le_trans (List.length_filter_le ..) (by rw [List.length_take]; omega)
theorem a3p.but {H':Hp}{xs:List V}(h:But f H H')(hf:H f=some (.lst xs)){l:Addr}{ps:List (Int × Int)}(hne:l ≠ f)(w:a3p K H l ps):a3p K H' l ps:=by
 obtain ⟨ts,h1,h2⟩:=w;exact ⟨ts,h _ _ hne h1,h2.mono fun a d (x:b1d K H a d)=>h.sq hf x⟩
theorem all2_but {K:PySem.W.Frag}{f:Addr}{H H':Hp}{xs:List V}(h:But f H H')(hf:H f=some (.lst xs)):∀ {cs:List Addr} {ls:List (List (Int × Int))},a5d (a3p K H) cs ls->(∀ c ∈ cs,c ≠ f)->a5d (a3p K H') cs ls
 | _,_,.nil,_=>.nil
 | _,_,.cons x t,hn=>.cons (a3p.but h hf (hn _ List.mem_cons_self) x) (all2_but h hf t fun c hc=>hn c (List.mem_cons_of_mem _ hc))
def b0h (K:PySem.W.Frag):Sp:=fun vs H Q _=>∃ (w:Addr) (b:Nat) (d:Dd) (n:Nat),vs=[.ref w,.int b]/\Wt H w d/\d.Ok n/\n <= 40/\d.k ≠ .both/\∀ b':Nat,(∀ p:Int × Int,d.k ≠ .quarter->d.k ≠ .back->a3q d.k (d.w.getD 0 0) (d.w.getD 1 0) (b,p) = [(b',p)])->(d.k=.quarter\/d.k=.back->b' = b)->Q (.int (b':Int)) H
def b4c (K:PySem.W.Frag):Sp:=fun vs H Q _=>∃ (f:Addr) (b:Nat) (re im:Int),vs=[.ref f,.int b,.int re,.int im]/\∃ (ws:Wh) (kvs:List (Key × V)),H f=some (.dK kvs)/\WR K H ws kvs/\ws.length <= 250/\
 ∀ H' kvs',H' f=some (.dK kvs')->WR K H' (b5u ws b (re,im)) kvs'->But f H H'->Q .non H'
def b1v (K:PySem.W.Frag):Sp:=fun vs H Q _=>∃ (w a:Addr) (d:Dd) (n:Nat) (ws:Wh),vs=[.ref w,.ref a]/\Wt H w d/\d.Ok n/\n <= 40/\WhAt K H a ws/\(ws.map (·.1)).Nodup/\ws.length <= 100/\∀ p H',a1u H H'->H p=none->WhAt K H' p (a4m d ws)->Q (.ref p) H'
def b5z (K:PySem.W.Frag):Sp:=fun vs H Q _=>∃ (a b:Addr) (p q:Int × Int),vs=[.ref a,.ref b]/\b1d K H a p/\b1d K H b q/\(p.1.natAbs < 2 ^ 300/\p.2.natAbs < 2 ^ 300)/\(q.1.natAbs < 2 ^ 300/\q.2.natAbs < 2 ^ 300)/\∀ t H',a1u H H'->b1d K H' t (gm p q)->Q (.ref t) H'
def a7t (K:PySem.W.Frag):Sp:=fun vs H Q _=>∃ (a b:Addr) (k:Nat) (xs ys:List (Int × Int)),vs=[.ref a,.ref b,.int k]/\a3p K H a xs/\a3p K H b ys/\xs.length=ys.length/\k < xs.length/\xs.length <= 100/\Lb 206 xs/\Lb 206 ys/\∀ p H',a1u H H'->a3p K H' p (clrd xs ys k)->Q (.ref p) H'
def a9w (K:PySem.W.Frag):Sp:=fun vs H Q _=>∃ (l:Addr) (as:List Addr) (ls:List (List (Int × Int))) (C:Nat),vs=[.ref l]/\H l=some (.lst (a1q as))/\a5d (a3p K H) as ls/\(∀ x ∈ ls,x.length=C)/\(∀ x ∈ ls,Lb 24 x)/\0 < ls.length/\ls.length <= 100/\C <= 100/\(ls.length <= 4\/C <= 4)/\∀ (m:Nat) a2e H',a1u H H'->Elim ls C C m a2e->Q (.int (m:Int)) H'
def a9f (K:PySem.W.Frag):Sp:=fun vs H Q _=>∃ (i:Nat) (l:Addr) (L:List Nat),vs=[.int i,.ref l]/\SqL K H l (vn L)/\L.length <= 40/\(∀ k ∈ L,k <= 40)/\∀ H',a1u H H'->Q (.int ((spr L i:Nat):Int)) H'
def sp_law (K:PySem.W.Frag):Sp:=fun vs H Q _=>∃ (a:Addr) (ns:List Int),vs=[.ref a]/\SqL K H a (ns.map V.int)/\ns.length <= 63/\∀ H',Q (.bl true) H'
section
variable {P:Program}{w:World}{K:PySem.W.Frag}{mg:Str->Option Value}{base:Heap}{C_WireError C_NoDeed a4s b4k C_NoProduct a3f A_WIRES_BEHIND:Addr}{CD_D:DK->Addr}{b1q:SK->Addr}
variable {f:Addr}{fd:FuncData}(T_S:Txt_S K b1q)(a4f:mg "len" = none)(a6z:∀ d:SK,MCal P w K mg base CX0 1 (b1q d) "left_of" ["self","number","which"] (b2b K b1q d))(a5h:Cal P w K mg base CX0 1 "lowest_bit" ["number"] (b0b K))(b2z:∀ d:SK,MCal P w K mg base CX0 2 (b1q d) "take" ["self","number"] (sp_S_take K b1q d))(g_XS:GC mg "XS" (.int 1))(g_ZS:GC mg "ZS" (.int 2))(c_ones:Cal P w K mg base CX0 1 "ones" ["number"] (sp_ones K))(b3z:mg "all" = none)(a1r:mg "enumerate" = none)(a4w:Cal P w K mg base CX0 2 "goes_beside" ["one","other"] (a8y K))(a6v:∀ d:SK,MCal P w K mg base CX0 1 (b1q d) "rank" ["self"] (sp_S_rank K b1q d))(b3b:KCal P w K mg base CX0 3 "Span" (b1q .span) ["self","numbers"] (a4k K b1q))(a0t:mg "isinstance" = none)(b_int:mg "int" = none)(b_bool:mg "bool" = none)(a6w:ExcC K mg "NoRow" b4k)(b7d:mg "tuple" = none)(a8b:GC mg "MINUS" (.int 0))(c_fits:Cal P w K mg base CX0 1 "fits" ["number","n"] (sp_fits K))(a0z:Cal P w K mg base CX0 1 "is_whole_number" ["thing"] (a5m K))(a4q:Cal P w K mg base (CXE P w) 2 "checked_row" ["thing","n"] (a9b K))(a5c:ExcC K mg "NoWhole" a3f)(a5j:Cal P w K mg base CX0 3 "all_beside" ["rows"] (a9z K))(a6s:Cal P w K mg base CX0 5 "are_apart" ["numbers"] (b2g K))(b_list:mg "list" = none)(b2t:Cal P w K mg base CX0 3 "is_row" ["thing","n"] (sp_is_row K))(a1t:Cal P w K mg base CX0 1 "signs_number" ["row","n"] (a8g K))(b0u:ExcC K mg "NoWire" a4s)(a4r:Cal P w K mg base (CXE P w) 6 "check_whole" ["rows","n"] (a9d K a3f))(a4t:Cal P w K mg base (CXE P w) 2 "check_wires" ["wires","n"] (a8u K a4s))(b_sum:mg "sum" = none)(a8t:Cal P w K mg base CX0 1 "at_wires" ["row","wires"] (b4r K))(a2z:mg "range" = none)(a2c:Cal P w K mg base CX0 1 "_law_stream" ["_law_cell","_law_many"] (a9a K))(b_max:mg "max" = none)(a2n:Cal P w K mg base CX0 1 "_law_put" ["_law_found","_law_b","_law_re","_law_im"] (b4c K))(a5f:Cal P w K mg base CX0 1 "_law_moved" ["_law_words","_law_b"] (b0h K))(b0s:Cal P w K mg base CX0 1 "_law_on" ["_law_words","_law_row"] (b6d K))(b_zip:mg "zip" = none)(a8c:Cal P w K mg base CX0 1 "_law_by" ["_law_one","_law_other"] (b5z K))(a3w:Cal P w K mg base CX0 2 "_law_cleared" ["_law_line","_law_lead","_law_at"] (a7t K))(b2p:Cal P w K mg base (CXE P w) 7 "common" ["rows","wires","n"] (sp_common K a3f a4s))(a7g:Cal P w K mg base CX0 2 "_law_deed" ["_law_cell","_law_n"] (b1t K))(a6u:Cal P w K mg base CX0 2 "_law_done" ["_law_words","_law_numbers"] (b1v K))(a2u:Cal P w K mg base CX0 1 "_law_cell_at" ["_law_script","_law_k"] (a8k K))(a4v:Cal P w K mg base CX0 2 "_law_behind" ["_law_work","_law_row"] (a8v K))(a5k:Cal P w K mg base CX0 3 "_law_apart" ["_law_table"] (a9w K))(a3e:Cal P w K mg base CX0 1 "_law_spread" ["_law_number","_law_wires"] (a9f K))
local macro_rules | `(tactic| fail "l0")=>`(tactic| exact fun vs H Q E h=>by obtain ⟨e,_⟩:=h; subst e; rfl)
local macro_rules | `(tactic| fail "l1")=>`(tactic| exact fun vs H Q E h=>by obtain ⟨_,e,_⟩:=h; subst e; rfl)
local macro_rules | `(tactic| fail "l2")=>`(tactic| exact fun vs H Q E h=>by obtain ⟨_,_,e,_⟩:=h; subst e; rfl)
local macro_rules | `(tactic| fail "l3")=>`(tactic| exact fun vs H Q E h=>by obtain ⟨_,_,_,e,_⟩:=h; subst e; rfl)
local macro_rules | `(tactic| fail "l4")=>`(tactic| exact fun vs H Q E h=>by obtain ⟨_,_,_,_,e,_⟩:=h; subst e; rfl)
local macro_rules | `(tactic| fail "l5")=>`(tactic| exact fun vs H Q E h=>by obtain ⟨_,_,_,_,_,e,_⟩:=h; subst e; rfl)
local macro_rules | `(tactic| fail "l6")=>`(tactic| exact fun vs H Q E h=>by obtain ⟨_,_,_,_,_,_,e,_⟩:=h; subst e; rfl)
local macro_rules | `(tactic| fail "l7")=>`(tactic| exact fun vs H Q E h=>by obtain ⟨_,_,_,_,_,_,_,e,_⟩:=h; subst e; rfl)
local macro_rules | `(tactic| fail "l8")=>`(tactic| exact fun vs H Q E h=>by obtain ⟨_,_,_,_,_,_,_,_,e,_⟩:=h; subst e; rfl)
local macro_rules | `(tactic| fail "l9")=>`(tactic| exact fun vs H Q E h=>by obtain ⟨_,_,_,_,_,_,_,_,_,e,_⟩:=h; subst e; rfl)
include T_S a4f in theorem ok_Span_rank (F:Fun K "rank" "Span.rank" a9k f fd):a4p P w K mg base CX0 1 f fd ["self"] (b1u K b1q):=by
 refine F.ok sc_Span_rank (by fail "l4") (fun cdv A outer s H vs Q E hr h=>?_);obtain ⟨p,l,us,ss,rfl,hS,hu,q⟩:=h;refine ⟨_,(a0g (a0x (a1w (a3k) rfl a4f PySem.boot_len (a0a (pe_fld (pv 0) rfl) a0f)))),?_⟩;fail "st";fail "go";obtain ⟨dx,as,hp,hl,hss,ok,hz⟩:=hS;refine b3x hp (T_S.cl _) (T_S.n_sums _) (b4n _ _) ?_;have sl:SqL K H l (a1q as):=SqL.of hl;fail "go";rw [a0n,hss.len];exact q
include T_S in theorem b4u (F:Fun K "left_of" "Span.left_of" a5t f fd):a4p P w K mg base CX0 1 f fd ["self","number","which"] (a7s K b1q):=by
 refine F.ok a1k (by fail "l6") (fun cdv A outer s H vs Q E hr h=>?_);obtain ⟨p,l,x,w,us,ss,rfl,⟨dx,as,hp,hl,hss,ok,hz⟩,hu,q⟩:=h
 refine ⟨_,(a0b (a0p (i:=3) a1k.nd rfl (Or.inl rfl) (pv 1))
   (a0b (a6f PassesOwn.never rfl (a3s (pe_fld (pv 0) rfl)) (b1z rfl (a1m (a1c (i:=4) a1k.nd rfl (Or.inl rfl)) (a1m (a1c (i:=5) a1k.nd rfl (Or.inl rfl)) (a1m (a1c (i:=6) a1k.nd rfl (Or.inl rfl)) a8e)))) (a0g (a3g (a0v (op_ne) (a0j (a2g) (pv 3) (pv 4)) a0d (a1d _)) (a0b (a0p (i:=3) a1k.nd rfl (Or.inl rfl) (a0j (a1g) (pv 3) (pv 5)))
   (a0g (a0p (i:=2) a1k.nd rfl (Or.inl rfl) (a0j (a1g) (pv 2) (pv 6))))) a1e)))
   (a0g (a0x (a2r (a0a (pv 3) (a0a (pv 2) a0f))))))),?_⟩
 fail "st";fail "go";refine st_forE ?_;fail "go";refine b3x hp (T_S.cl _) (T_S.n_sums _) (b4n _ _) ?_;refine st_forAt (SqL.of hl) (fun i σ H'=>∃ (u1 u2 u3:Option V),σ=[some (.ref p),some (.int x),some (.int ((red (ss.take i) x w).2:Int)),some (.int ((red (ss.take i) x w).1:Int)),u1,u2,u3]/\a1u H H') ⟨none,none,none,rfl,a1u.refl _⟩ ?_ ?_ ?_
 ·rintro i σ H' _ ⟨_,_,_,_,s⟩;exact SqL.of (s _ _ hl)
 ·rintro i y σ H' hy ⟨u1,u2,u3,rfl,s⟩;obtain ⟨a,ha,rfl⟩:=a2q hy;obtain ⟨sm,hsm,hsa⟩:=hss.get ha;have hsa':SqT K H' a [.int ((2 ^ sm.j:Nat):Int),.int (sm.t:Int),.int (sm.p:Int)]:=SqT.of (s _ _ hsa);rw [red_at x w hsm];generalize red (ss.take i) x w=lw;obtain ⟨lf,wh⟩:=lw;dsimp only;have hz:=and_pow_ne lf sm.j;fail "go"
  by_cases hb:lf.testBit sm.j=true
  ·simp only [if_pos hb];refine iteN (fun c=>?_) (fun c=>?_)
   ·fail "go";exact ⟨_,_,_,rfl,s⟩
   ·rw [hz.mp c] at hb;cases hb
  ·simp only [if_neg hb];refine iteN (fun c=>(c (hz.mpr (eq_false_of_ne_true hb))).elim) (fun c=>?_);fail "go";exact ⟨_,_,_,rfl,s⟩
 ·rintro σ H' ⟨u1,u2,u3,rfl,s⟩;fail "go";rename_i p2 hp2;rw [a0n,hss.len,List.take_length];exact q p2 _ (s.trans (a0e hp2 _)) a0c
theorem b6m (F:Fun K "lowest_bit" "lowest_bit" a7z f fd):a4p P w K mg base CX0 1 f fd ["number"] (b0b K):=by
 refine F.ok b6h (by fail "l1") (fun cdv A outer s H vs Q E hr h=>?_);obtain ⟨v,rfl,hv,q⟩:=h;refine ⟨_,(a0g (a0x (a0j (a2g) (pv 0) (pe_un un_neg (pv 0))))),?_⟩;fail "go";obtain ⟨j,e,hj,lo⟩:=low_bit2 v hv
 have e2:Builtin.bitAnd (v:Int) (-(v:Int)) = ((2 ^ j:Nat):Int):=by
  unfold Builtin.bitAnd;rw [decide_eq_true (show (0:Int) <= (v:Int) by omega),decide_eq_false (show ¬ (0:Int) <= -(v:Int) by omega)];show (v:Int) - _=_
  have e3:(Builtin.bitNot (-(v:Int))).toNat=v - 1:=by
   unfold Builtin.bitNot;omega
  rw [e3,Int.toNat_natCast,<- e];have:=Nat.and_le_left (n:=v) (m:=v - 1);omega
 rw [e2]; exact q j hj lo
include T_S a6z a5h in theorem ok_Span_take (F:Fun K "take" "Span.take" a9p f fd):a4p P w K mg base CX0 2 f fd ["self","number"] (b2d K b1q):=by
 refine F.ok b2h (by fail "l5") (fun cdv A outer s H vs Q E hr h=>?_);obtain ⟨p,l,x,us,ss,rfl,hS,hu,q⟩:=h
 refine ⟨_,(a0b (a0p (i:=2) b2h.nd rfl (Or.inl rfl) (pe_md a6z hr a1z (pv 0) (a0a (pv 1) (a0a (a0j (a2d) a0d (pe_fld (pv 0) rfl)) a0f))))
   (a0b (ps_fld (pv 0) (a0j (a4a) (pe_fld (pv 0) rfl) a0d) rfl)
   (a0g (a3g (a0v (op_ne) (a0w (a0r) (pv 2) a0d (fun _ _=>rfl)) a0d (a1d _)) (a0g (a2y (pe_bm PySem.F.plainAttrs_list PySem.F.slot_list_append PySem.F.type_list_append a6k (pe_fld (pv 0) rfl) (a0a (a2r (a0a (a2f a5h hr a1z (a0a (a0w (a0r) (pv 2) a0d (fun _ _=>rfl)) a0f)) (a0a (a0w (a0r) (pv 2) a0d (fun _ _=>rfl)) (a0a (a0w (a0r) (pv 2) a0d (fun _ _=>rfl)) a0f)))) a0f)))) a1e)))),?_⟩
 fail "st";obtain ⟨dx,as,hp,hl,hss,ok,hz⟩:=id hS;fail "go";refine st_md1 hp (b8g _ _ (by decide +kernel) (by decide +kernel)) ?_;fail "go";refine b3x hp (T_S.cl _) (T_S.n_taken _) (b6b _ _) ?_;fail "go";refine ⟨p,l,x,2 ^ us.length,us,ss,rfl,hS,hu,fun q2 H' s hq2=>?_⟩;have hp':=s _ _ hp;have hl':=s _ _ hl;have hss':=hss.mono fun a d (x:Sm3 H a d)=>s _ _ x;have key:=fun j hj=>SpOk.take ok x j hj;generalize hr:red ss x (2 ^ us.length) = lw at hq2 key;obtain ⟨lf,wh⟩:=lw;dsimp only at hq2 key;fail "go";refine b3x hp' (T_S.cl _) (T_S.n_taken _) (b6b _ _) ?_;fail "go";refine st_put1 hp' (T_S.cl _) (T_S.n_taken _) (by show 2 < 1000; decide) ?_;rw [taken_put,show ((us.length:Nat):Int) + 1=(((us ++ [x]).length:Nat):Int) from by rw [List.length_append]; push_cast; rfl];have npl:l ≠ p:=a9u hl' hp' (by intro z; cases z);have B1:But p H' (upd H' p (.ins (b1q .span) dx (a6e l (((us ++ [x]).length:Nat):Int)))):=But.upd;have f_p:(upd H' p (.ins (b1q .span) dx (a6e l (((us ++ [x]).length:Nat):Int)))) p=some (.ins (b1q .span) dx (a6e l (((us ++ [x]).length:Nat):Int))):=a0c;generalize upd H' p (.ins (b1q .span) dx (a6e l (((us ++ [x]).length:Nat):Int))) = G at B1 f_p ⊢;have f_l:=B1 _ _ npl hl';have f_q:G q2=some (.tup [.int (lf:Int),.int (wh:Int)]):=B1 _ _ (a9u hq2 hp' (by intro z; cases z)) hq2;have f_s:=hss'.mono fun a d (x:Sm3 H' a d)=>(B1 _ _ (a9u x hp' (by intro z; cases z)) x:Sm3 G a d);have sq:SqT K G q2 [.int (lf:Int),.int (wh:Int)]:=SqT.of f_q;have oth1:∀ c o,c ≠ p->H c=some o->G c=some o:=fun c o hc e=>B1 c o hc (s c o e);have lss:as.length=ss.length:=hss.len;fail "go";refine iteN (fun c=>?_) (fun c=>?_)
 ·have hlf:lf ≠ 0:=fun z=>c (by rw [z]; rfl);fail "go";refine b3x f_p (T_S.cl _) (T_S.n_sums _) (b4n _ _) ?_;have sl:SqL K G l (a1q as):=SqL.of f_l;have hle:(a1q as).length <= 900:=by rw [a0n]; omega
  fail "go";refine ⟨lf,rfl,by omega,fun j hj _=>?_⟩;fail "go";rename_i p3 hp3;have S3:=a0e hp3 (.tup [.int ((2 ^ j:Nat):Int),.int (lf:Int),.int (wh:Int)]);have w3:Sm3 (upd G p3 (.tup [.int ((2 ^ j:Nat):Int),.int (lf:Int),.int (wh:Int)])) p3 ⟨j,lf,wh⟩:=a0c;generalize upd G p3 (.tup [.int ((2 ^ j:Nat):Int),.int (lf:Int),.int (wh:Int)]) = G3 at S3 w3 ⊢;have g_l:=S3 _ _ f_l;have k1:=key j fun _=>hj;rw [if_pos hlf] at k1;have B3:But l G3 (upd G3 l (.lst (a1q as ++ [.ref p3]))):=But.upd;refine q _ (ss ++ [⟨j,lf,wh⟩]) (fun c o h1 h2 e=>B3 c o h2 (S3 _ _ (oth1 c o h1 e))) ⟨dx,as ++ [p3],B3 _ _ (Ne.symm npl) (S3 _ _ f_p),by rw [a0c,a3h],?_,k1,by rw [List.length_append,List.length_append]; show _ + 1 <= _ + 1; omega⟩;exact (f_s.mono fun a d (x:Sm3 G a d)=>(B3 _ _ (a9u (S3 _ _ x) g_l (by intro z; cases z)) (S3 _ _ x):Sm3 _ a d)).snoc (B3 _ _ (a9u w3 g_l (by intro z; cases z)) w3)
 ·have hlf:lf=0:=by omega
  fail "go";have k0:=key 0 fun z=>(z hlf).elim;rw [if_neg (fun z=>z hlf)] at k0;exact q _ ss (fun c o h1 _ e=>oth1 c o h1 e) ⟨dx,as,f_p,f_l,f_s,k0,by rw [List.length_append]; show _ <= _ + 1; omega⟩
include T_S b2z in theorem b2j (F:Fun K "__init__" "Span.__init__" a5a f fd):a4p P w K mg base CX0 3 f fd ["self","numbers"] (a4k K b1q):=by
 refine F.ok a7k (by fail "l4") (fun cdv A outer s H vs Q E hr h=>?_);obtain ⟨p,n,dx,us,rfl,hp,hn,hu,q⟩:=h
 refine ⟨_,(a0b (ps_fld (pv 0) (b3p a0f) rfl)
   (a0b (ps_fld (pv 0) a0d rfl)
   (a0g (a6f PassesOwn.never rfl (a3s (pv 1)) (a1c (i:=2) a7k.nd rfl (Or.inl rfl)) (a0g (a2y (pe_md b2z hr a1z (pv 0) (a0a (pv 2) a0f)))))))),?_⟩
 fail "st";fail "go";rename_i l hl;have npl:p ≠ l:=fun z=>by rw [z,hl] at hp; cases hp
 refine st_put1 (by rw [a0m npl]; exact hp) (T_S.cl _) (T_S.n_sums _) (by show 0 < 1000; decide) ?_;fail "go";refine st_put1 a0c (T_S.cl _) (T_S.n_taken _) (by show 1 < 1000; decide) ?_;rw [upd_upd,first_put];have f_p:(upd (upd H l (.lst [])) p (.ins (b1q .span) dx (a6e l 0))) p=some (.ins (b1q .span) dx (a6e l 0)):=a0c;have f_l:(upd (upd H l (.lst [])) p (.ins (b1q .span) dx (a6e l 0))) l=some (.lst (a1q [])):=by rw [a0m (Ne.symm npl)]; exact a0c
 have oth:∀ c o,c ≠ p->H c=some o->(upd (upd H l (.lst [])) p (.ins (b1q .span) dx (a6e l 0))) c=some o:=fun c o hc e=>by rw [a0m hc]; exact a0e hl _ _ _ e
 generalize upd (upd H l (.lst [])) p (.ins (b1q .span) dx (a6e l 0)) = G at f_p f_l oth ⊢;have nnp:n ≠ p:=a9u hn hp (by intro z; cases z);fail "go";refine a9m (fun P h=>⟨_,rfl,h⟩) (SqL.of (oth _ _ nnp hn)) (fun i σ H'=>∃ (u:Option V) (ss:List Sm),σ=[some (.ref p),some (.ref n),u]/\SnAt b1q H' p l (us.take i) ss/\∀ c o,c ≠ p->H c=some o->H' c=some o) ⟨none,[],rfl,⟨dx,[],f_p,f_l,.nil,SpOk.nil,Nat.le_refl _⟩,oth⟩ ?_ ?_ ?_
 ·rintro i σ H' _ ⟨u,ss,_,_,o⟩;exact SqL.of (o _ _ nnp hn)
 ·rintro i y σ H' hy ⟨u,ss,rfl,hS,o⟩;obtain ⟨v,rfl,hv⟩:=vn_at hy;obtain ⟨dx',as,hp',hl',hss,ok,hz⟩:=id hS;fail "go";refine st_md1 hp' (b8g _ _ (by decide +kernel) (by decide +kernel)) ?_;fail "go";refine ⟨p,l,v,us.take i,ss,rfl,hS,by rw [List.length_take]; omega,fun H2 ss' o2 hS2=>?_⟩;fail "go";refine ⟨_,ss',rfl,by rw [a0q hv]; exact hS2,fun c ob hc e=>o2 c ob hc (fun z=>by rw [z,hl] at e; cases e) (o c ob hc e)⟩
 ·rintro σ H' ⟨u,ss,rfl,hS,o⟩;rw [a6a,List.take_length] at hS;fail "go";exact q H' l ss o hl hS
theorem ok_ones (F:Fun K "ones" "ones" s_ones f fd):a4p P w K mg base CX0 1 f fd ["number"] (sp_ones K):=by
 refine F.ok b4p (by fail "l1") (fun cdv A outer s H vs Q E hr h=>?_);obtain ⟨n,rfl,q⟩:=h
 refine ⟨_,(a0b (a0p (i:=1) b4p.nd rfl (Or.inl rfl) a0d)
   (a0b (a0p (i:=2) b4p.nd rfl (Or.inl rfl) (pv 0))
   (a0b (ps_while PassesOwn.never (a0v (op_gt) (pv 2) a0d (a1d _)) (a0b (a0p (i:=2) b4p.nd rfl (Or.inl rfl) (a0j (a2g) (pv 2) (a0j (a6b) (pv 2) a0d)))
   (a0g (a0p (i:=1) b4p.nd rfl (Or.inl rfl) (a0j (a4a) (pv 1) a0d)))))
   (a0g (a0x (pv 1)))))),?_⟩
 fail "go";refine ⟨fun m σ H'=>∃ k r:Nat,σ=[some (.int n),some (.int k),some (.int r)]/\H' = H/\m=r/\k + pop r=pop n,⟨n,0,n,rfl,rfl,rfl,by omega⟩,?_⟩;rintro m σ H' ⟨k,r,rfl,rfl,rfl,e⟩;fail "go";refine iteD (fun c=>?_) (fun c=>?_)
 ·have c':0 < m:=by omega
  refine ⟨fun σ' H1=>∃ k r:Nat,σ' = [some (.int n),some (.int k),some (.int r)]/\H1=H'/\r < m/\k + pop r=pop n,fun σ' H1 ⟨k,r,e1,e2,e3,e4⟩=>⟨r,e3,k,r,e1,e2,rfl,e4⟩,?_⟩;fail "go";rw [bitAnd_pred c'];have:=pop_pred m c';exact ⟨k + 1,m &&& (m - 1),rfl,rfl,and_pred_lt c',by omega⟩
 ·have c':m=0:=by omega
  subst c';rw [a7j,Nat.add_zero] at e;subst e;fail "go";exact q
include g_XS g_ZS c_ones in theorem b5e (F:Fun K "goes_beside" "goes_beside" a7a f fd):a4p P w K mg base CX0 2 f fd ["one","other"] (a8y K):=by
 refine F.ok a8w (by fail "l4") (fun cdv A outer s H vs Q E hr h=>?_);obtain ⟨a,b,r,t,rfl,ha,hb,q⟩:=h
 refine ⟨_,(a0b (a0p (i:=2) a8w.nd rfl (Or.inl rfl) (a0j (a1g) (a0j (a2g) (a0w (a0r) (pv 0) (b1a g_XS) (fun _ _=>rfl)) (a0w (a0r) (pv 1) (b1a g_ZS) (fun _ _=>rfl))) (a0j (a2g) (a0w (a0r) (pv 0) (b1a g_ZS) (fun _ _=>rfl)) (a0w (a0r) (pv 1) (b1a g_XS) (fun _ _=>rfl)))))
   (a0g (a0x (b1h (a6n) (a0j (a8x) (a2f c_ones hr a1z (a0a (pv 2) a0f)) a0d) a0d (a1d _))))),?_⟩
 fail "st";unfold Row.V at ha hb;fail "go";refine ⟨_,rfl,?_⟩;fail "go";have e:(((pop (crs r t):Nat):Int) % 2=0) = (pop (crs r t) % 2=0):=by apply propext; omega
 show Q (.bl (decide (((pop (crs r t):Nat):Int) % 2=0))) H;simp only [e];exact q
include b3z a1r a4w in theorem b6x (F:Fun K "all_beside" "all_beside" a3b f fd):a4p P w K mg base CX0 3 f fd ["rows"] (a9z K):=by
 refine F.ok b0a (by fail "l3") (fun cdv A outer s H vs Q E hr h=>?_);obtain ⟨l,as,rs,rfl,hl,hW,hz,q⟩:=h;refine ⟨_,(a0g (a0x (a1w (b0r rfl) rfl b3z b2m (a0a (pe_compN (sc:=a0k a3b) rfl ⟨rfl,by decide +kernel,fun _ _=>rfl,rfl,rfl,by decide +kernel,by decide +kernel,by decide +kernel,by decide +kernel⟩ (by show ("k":Str) ∉ (["rows"]:List Str); decide +kernel) (by show ("row":Str) ∉ (["rows"]:List Str); decide +kernel) (by decide +kernel) (by show (".0":Str) ∉ (["rows"]:List Str); decide +kernel) b0a.nd rfl (b8d rfl a1r (a0a (pv 0) a0f)) (fun _ _ _ _=>a5s) (fun _ _ _ _=>(a1w (call_allBK (K:=K) rfl rfl) rfl b3z b2m (a0a (a6x (sc:=Tw.relS (Tw.bodyScope a3b) (a0k a3b)) rfl ⟨rfl,by decide +kernel,rfl,by decide +kernel,by decide +kernel,by decide +kernel,by decide +kernel⟩ (by show ("other":Str) ∉ (["k","row","rows"]:List Str); decide +kernel) (by show (".0":Str) ∉ (["k","row","rows"]:List Str); decide +kernel) (by show (["k","row","rows"]:List Str).Nodup; decide +kernel) rfl (pi_listK (K:=K) rfl (b0c (sl_listK (K:=K) rfl) (pv 2) b7t (b1r (pv 0)))) (fun _ _ _ _=>a5s) (fun _ _ _ _=>(a2f a4w hr a1z (a0a (pv 2) (a0a (pv 0) a0f))))) a0f)))) a0f)))),?_⟩;fail "st";fail "go";have lrs:as.length=rs.length:=hW.len;refine st_cpEn (fun P h=>?_) (SqL.of hl) (fun i ys H'=>a1u H H'/\ys=((List.range i).map (bsd rs)).map V.bl) (by rw [a0n]; omega) ⟨a1u.refl _,rfl⟩ ?_ ?_ ?_ ?_
 ·fail "go";exact h
 ·rintro i ys H' ⟨_,rfl⟩;rw [List.length_map,List.length_map,List.length_range];exact Nat.le_refl _
 ·rintro i ys H' ⟨s,_⟩;exact SqL.of (s _ _ hl)
 ·rintro i x ys H' p hx ⟨s,rfl⟩ hp;obtain ⟨a,ha,rfl⟩:=a2q hx;obtain ⟨r,hr,hra⟩:=hW.get ha;have S1:=s.trans (a0e hp (.tup [.int (i:Int),.ref a]));generalize upd H' p (.tup [.int (i:Int),.ref a]) = G1 at S1 ⊢;have l1:SqL K G1 l (a1q as):=SqL.of (S1 _ _ hl);fail "go";refine st_cpE ?_;fail "go";rename_i p2 hp2;have et:cutV (a1q as) none (some (i:Int)) = a1q (as.take i):=(cut_takeV _ _).trans (List.map_take ..).symm;rw [et];have S2:=S1.trans (a0e hp2 (.lst (a1q (as.take i))));have f2:(upd G1 p2 (.lst (a1q (as.take i)))) p2=some (.lst (a1q (as.take i))):=a0c;generalize upd G1 p2 (.lst (a1q (as.take i))) = G2 at S2 f2 ⊢;have W2:a5d (Rt K G2) as rs:=hW.mono fun a d x=>Rt.same S2 x;have hra2:SqT K G2 a r.V:=SqT.of (Rt.same S2 hra);have eb:rs.getD i ⟨0,0,0⟩ = r:=by rw [List.getD_eq_getElem?_getD,hr]; rfl
  refine st_cpAt (SqL.of f2) (fun j zs H'=>H' = G2/\zs=(((rs.take i).take j).map fun s=>!a4z r s).map V.bl) (by rw [a0n,List.length_take]; omega) ⟨rfl,rfl⟩ ?_ ?_ ?_ ?_
  ·rintro j zs H' ⟨_,rfl⟩;rw [List.length_map,List.length_map,List.length_take];omega
  ·rintro j zs H' ⟨rfl,_⟩;exact SqL.of f2
  ·rintro j y zs H' hy ⟨rfl,rfl⟩;obtain ⟨b,hb,rfl⟩:=a2q hy;obtain ⟨t,ht,htb⟩:=(W2.take i).get hb;fail "go";refine ⟨a,b,r,t,rfl,hra2,SqT.of htb,?_⟩;rw [bes_dec];refine ⟨rfl,?_⟩;rw [a0q ht,List.map_append,List.map_append];rfl
  ·rintro zs H' ⟨rfl,rfl⟩ p3 hp3;fail "go";refine st_all (SqL.of a0c) ?_;refine ⟨S2.trans (a0e hp3 _),?_⟩;rw [a0n,List.length_take,Nat.min_eq_left (by have:=(List.getElem?_eq_some_iff.1 ha).1; omega),List.take_take,Nat.min_self,List.range_succ,List.map_append,List.map_append];show _=_ ++ [V.bl (bsd rs i)];unfold bsd;rw [eb]
 ·rintro ys H' ⟨s,rfl⟩ p hp;rw [a0n,lrs];fail "go";refine st_all (SqL.of a0c) ?_;exact q _ (s.trans (a0e hp _))
include T_S a4f a6v b3b in theorem ok_are_apart (F:Fun K "are_apart" "are_apart" a9q f fd):a4p P w K mg base CX0 5 f fd ["numbers"] (b2g K):=by
 refine F.ok sc_are_apart (by fail "l2") (fun cdv A outer s H vs Q E hr h=>?_);obtain ⟨l,us,rfl,hl,hu,q⟩:=h;refine ⟨_,(a0g (a0x (b1h (a6n) (pe_md0 a6v hr a1z (pe_new b3b hr a1z (a0a (pv 0) a0f))) (a1w (a3k) rfl a4f PySem.boot_len (a0a (pv 0) a0f)) (a1d _)))),?_⟩;fail "st";fail "go";intro xo dx nx ndx nxd;refine ⟨xo,l,dx,us,rfl,a0c,?_,hu,fun H5 l5 ss oth hl5 hS=>⟨rfl,?_⟩⟩
 ·rw [a0m (a0h hl nx),a0m (a0h hl ndx)];exact hl
 have S5:a1u H H5:=fun c o e=>by
  have n1:c ≠ xo:=a0h e nx;have n2:c ≠ dx:=a0h e ndx;exact oth c o n1 (by rw [a0m n1,a0m n2]; exact e)
 have l5':=S5 _ _ hl;obtain ⟨dx',as',hp',hl',hss,ok,hz⟩:=id hS;refine st_md1 hp' (b8g _ _ (by decide +kernel) (by decide +kernel)) ?_;fail "go";refine ⟨xo,l5,us,ss,rfl,hS,hu,?_⟩;have sl:SqL K H5 l (vn us):=SqL.of l5';fail "go";rw [a6a]
 have e:decide (((ss.length:Nat):Int) = ((us.length:Nat):Int)) = decide (ss.length=us.length):=by
  by_cases c:ss.length=us.length
  ·rw [decide_eq_true c,decide_eq_true (by rw [c])]
  ·rw [decide_eq_false c,decide_eq_false (by omega)]
 rw [e];exact q H5 ss S5 ok hz
theorem ok_fits (F:Fun K "fits" "fits" s_fits f fd):a4p P w K mg base CX0 1 f fd ["number","n"] (sp_fits K):=by
 refine F.ok sc_fits (by fail "l2") (fun cdv A outer s H vs Q E hr h=>?_);obtain ⟨x,n,rfl,hn,q⟩:=h;refine ⟨_,(a0g (a0x (pe_and (b1h (op_ge) (pv 0) a0d (a1d _)) (pe_one (b1h (op_lt) (pv 0) (a0j (a2d) a0d (pv 1)) (a1d _)))))),?_⟩;fail "go";refine iteD (fun c=>?_) (fun c=>?_)
 ·fail "go"
  have e:decide (0 <= x/\x < ((2 ^ n:Nat):Int)) = decide (x < ((2 ^ n:Nat):Int)):=by
   by_cases h:x < ((2 ^ n:Nat):Int)
   ·rw [decide_eq_true h,decide_eq_true ⟨c,h⟩]
   ·rw [decide_eq_false h,decide_eq_false fun z=>h z.2]
  rw [e] at q;exact q
 ·rw [decide_eq_false fun z=>c z.1] at q;exact q
include a0t b_int b_bool in theorem b0x (F:Fun K "is_whole_number" "is_whole_number" a3u f fd):a4p P w K mg base CX0 1 f fd ["thing"] (a5m K):=by
 refine F.ok b0t (by fail "l2") (fun cdv A outer s H vs Q E hr h=>?_);obtain ⟨v,b,rfl,⟨t,b1,b2,ty,e1,e2,rfl⟩,q⟩:=h;refine ⟨_,(a0g (a0x (pe_and (pe_isB rfl a0t (pv 0) b_int boot_int) (pe_one (pe_not (pe_isB rfl a0t (pv 0) b_bool boot_bool)))))),?_⟩;fail "st";fail "go";refine st_isi ty e1 ?_
 cases b1 with
 | false=>
  fail "go";exact q
 | true=>
  fail "go";refine st_isi ty e2 ?_;fail "go";exact q
include a4f g_XS g_ZS b3z a0t a6w b7d a8b c_fits a0z in theorem b5r (F:Fun K "checked_row" "checked_row" a4u f fd):a4p P w K mg base (CXE P w) 2 f fd ["thing","n"] (a9b K):=by
 refine F.okE a8z (by fail "l3") (fun cdv A outer s H vs Q E hr h=>?_);obtain ⟨a,n,r,rfl,ha,ok,hn,q⟩:=h
 refine ⟨_,(a0b (a3g (PW.pt (pw_or (b0m (a7p (pe_isB rfl a0t (pv 0) b7d boot_tuple))) (pw_or1 (a0v (op_ne) (a1w (a3k) rfl a4f PySem.boot_len (a0a (pv 0) a0f)) a0d (a1d _))))) (a0g (a3x a6w a5v (a0a a1j a0f) rfl)) a1e)
   (a0b (a3g (b0m (a7p (a1w (b0r rfl) rfl b3z b2m (a0a (a6x (sc:=a0k a4u) rfl ⟨rfl,by decide +kernel,rfl,by decide +kernel,by decide +kernel,by decide +kernel,by decide +kernel⟩ (by show ("part":Str) ∉ (["thing","n"]:List Str); decide +kernel) (by show (".0":Str) ∉ (["thing","n"]:List Str); decide +kernel) a8z.nd rfl (pi_tup (pv 0)) (fun _ _ _ _=>a5s) (fun _ _ _ _=>(a2f a0z hr a1z (a0a (pv 0) a0f)))) a0f)))) (a0g (a3x a6w a5v (a0a a1j a0f) rfl)) a1e)
   (a0b (a3g (PW.pt (pw_and (a0v (op_ne) (a0w (a0r) (pv 0) (b1a a8b) (fun _ _=>rfl)) a0d (a1d _)) (pw_and1 (a0v (op_ne) (a0w (a0r) (pv 0) (b1a a8b) (fun _ _=>rfl)) a0d (a1d _))))) (a0g (a3x a6w a5v (a0a a1j a0f) rfl)) a1e)
   (a0b (a3g (PW.pt (pw_or (b0m (a7p (a2f c_fits hr a1z (a0a (a0w (a0r) (pv 0) (b1a g_XS) (fun _ _=>rfl)) (a0a (pv 1) a0f))))) (pw_or1 (b0m (a7p (a2f c_fits hr a1z (a0a (a0w (a0r) (pv 0) (b1a g_ZS) (fun _ _=>rfl)) (a0a (pv 1) a0f)))))))) (a0g (a3x a6w a5v (a0a a1j a0f) rfl)) a1e)
   (a0g (a0x (pv 0))))))),?_⟩
 fail "st";have ha':=SqT.of (K:=K) ha;unfold Row.V at ha';have ha2:=ha;unfold Row.V at ha2;fail "go";refine iteN (fun c=>(c rfl).elim) (fun _=>?_);fail "go";refine st_comp_tup (fun P h=>⟨_,rfl,h⟩) ha' (fun i ys H'=>H' = H/\ys=((r.V.take i).map wnB).map V.bl) (by show (3:Nat) <= 1000; decide) ⟨rfl,rfl⟩ ?_ ?_ ?_ ?_
 ·rintro i ys H' ⟨rfl,rfl⟩;rw [List.length_map,List.length_map,List.length_take];omega
 ·rintro i ys H' ⟨rfl,rfl⟩;exact ha'
 ·rintro i x ys H' hx ⟨rfl,rfl⟩;fail "go";refine ⟨x,wnB x,rfl,WN.flat K _ (okV_flat (all_get (row_okV r) hx)),rfl,?_⟩;rw [a0q (xs:=r.V) hx,List.map_append,List.map_append];rfl
 ·rintro ys H' ⟨rfl,rfl⟩ p2 hp2;fail "go";refine st_all (bs:=(r.V.take 3).map wnB) (SqL.of a0c) ?_;rw [show ((r.V.take 3).map wnB).all id=true from rfl];have S1:=a0e hp2 (.lst (((r.V.take 3).map wnB).map V.bl));have ha3:=S1.tup ha';have om:=ok.m;have ox:=ok.x;have oz:=ok.z;fail "go"
  by_cases hm0:(r.m:Int) = 0
  ·rw [decide_eq_true hm0];fail "go";refine ⟨(r.x:Int),n,rfl,by omega,?_⟩;fail "go";refine iteN (fun c=>(c ⟨by omega,Int.ofNat_lt.mpr ox⟩).elim) (fun _=>?_);fail "go";refine ⟨(r.z:Int),n,rfl,by omega,?_⟩;fail "go";refine iteN (fun c=>(c ⟨by omega,Int.ofNat_lt.mpr oz⟩).elim) (fun _=>?_);fail "go";exact q _ S1
  ·rw [decide_eq_false hm0];fail "go";have hm1:(r.m:Int) = 1:=by omega
   rw [decide_eq_true hm1];fail "go";refine ⟨(r.x:Int),n,rfl,by omega,?_⟩;fail "go";refine iteN (fun c=>(c ⟨by omega,Int.ofNat_lt.mpr ox⟩).elim) (fun _=>?_);fail "go";refine ⟨(r.z:Int),n,rfl,by omega,?_⟩;fail "go";refine iteN (fun c=>(c ⟨by omega,Int.ofNat_lt.mpr oz⟩).elim) (fun _=>?_);fail "go";exact q _ S1
include a6w a4q in theorem ok_is_row (F:Fun K "is_row" "is_row" b7s f fd):a4p P w K mg base CX0 3 f fd ["thing","n"] (sp_is_row K):=by
 refine F.ok sc_is_row (by fail "l3") (fun cdv A outer s H vs Q E hr h=>?_);obtain ⟨a,n,r,rfl,ha,ok,hn,q⟩:=h
 refine ⟨_,(a0b (ps_tryQ (psx_expr (pex_fn a4q hr (a0a (pv 0) (a0a (pv 1) a0f)))))
   (a0g (a0x pe_bl))),?_⟩
 fail "go";refine ⟨a,n,r,rfl,ha,ok,hn,fun H' s=>?_⟩;fail "go";exact q H' s
include g_XS g_ZS in theorem b4b (F:Fun K "signs_number" "signs_number" a5u f fd):a4p P w K mg base CX0 1 f fd ["row","n"] (a8g K):=by
 refine F.ok b3f (by fail "l3") (fun cdv A outer s H vs Q E hr h=>?_);obtain ⟨a,n,r,rfl,ha,hx,hz,hn,q⟩:=h;refine ⟨_,(a0g (a0x (a0j (op_or) (a0w (a0r) (pv 0) (b1a g_XS) (fun _ _=>rfl)) (a0j (a2d) (a0w (a0r) (pv 0) (b1a g_ZS) (fun _ _=>rfl)) (pv 1))))),?_⟩;fail "st";unfold Row.V at ha;rw [<- or_sn hx] at q;fail "go";refine st_i ⟨by omega,by omega,by rw [Int.natAbs_natCast]; exact Nat.lt_trans hz (by decide)⟩ ?_;rw [Int.toNat_natCast,show (r.z:Int) * 2 ^ n=((r.z * 2 ^ n:Nat):Int) from by push_cast; rfl];fail "go";exact q
include a4f b3z a0t a5c a5j a6s b_list b2t a1t in theorem b5j (F:Fun K "check_whole" "check_whole" a3j f fd):a4p P w K mg base (CXE P w) 6 f fd ["rows","n"] (a9d K a3f):=by
 refine F.okE a5x (by fail "l4") (fun cdv A outer s H vs Q E hr h=>?_);obtain ⟨l,n,as,rs,rfl,hl,hW,hok,hz,hn,q,qe⟩:=h
 refine ⟨_,(a0b (a3g (PW.pt (pw_or (b0m (a7p (pe_isB rfl a0t (pv 0) b_list boot_list))) (pw_or1 (a0v (op_ne) (a1w (a3k) rfl a4f PySem.boot_len (a0a (pv 0) a0f)) (pv 1) (a1d _))))) (a0g (a3x a5c a5v (a0a a1j a0f) rfl)) a1e)
   (a0b (a3g (b0m (a7p (a1w (b0r rfl) rfl b3z b2m (a0a (a6x (sc:=a0k a3j) rfl ⟨rfl,by decide +kernel,rfl,by decide +kernel,by decide +kernel,by decide +kernel,by decide +kernel⟩ (by show ("row":Str) ∉ (["rows","n"]:List Str); decide +kernel) (by show (".0":Str) ∉ (["rows","n"]:List Str); decide +kernel) a5x.nd rfl (a3s (pv 0)) (fun _ _ _ _=>a5s) (fun _ _ _ _=>(a2f b2t hr a1z (a0a (pv 0) (a0a (pv 2) a0f))))) a0f)))) (a0g (a3x a5c a5v (a0a a1j a0f) rfl)) a1e)
   (a0b (a3g (b0m (a7p (a2f a5j hr a1z (a0a (pv 0) a0f)))) (a0g (a3x a5c a5v (a0a a1j a0f) rfl)) a1e)
   (a0g (a3g (b0m (a7p (a2f a6s hr a1z (a0a (a6x (sc:=a0k a3j) rfl ⟨rfl,by decide +kernel,rfl,by decide +kernel,by decide +kernel,by decide +kernel,by decide +kernel⟩ (by show ("row":Str) ∉ (["rows","n"]:List Str); decide +kernel) (by show (".0":Str) ∉ (["rows","n"]:List Str); decide +kernel) a5x.nd rfl (a3s (pv 0)) (fun _ _ _ _=>a5s) (fun _ _ _ _=>(a2f a1t hr a1z (a0a (pv 0) (a0a (pv 2) a0f))))) a0f)))) (a0g (a3x a5c a5v (a0a a1j a0f) rfl)) a1e))))),?_⟩
 fail "st";fail "go";have lrs:as.length=rs.length:=hW.len;refine iteN (fun c=>?_) (fun c=>?_)
 ·fail "go";exact ⟨by decide,qe H (a1u.refl _) fun z=>c (by rw [a0n,lrs,z.gd.2.2])⟩
 have lrn:rs.length=n:=by rw [a0n] at c; omega
 fail "go";refine a3v (fun P h=>⟨_,rfl,h⟩) (SqL.of hl) (fun i ys H'=>a1u H H'/\ys=(List.replicate i true).map V.bl) (by rw [a0n]; omega) ⟨a1u.refl _,rfl⟩ ?_ ?_ ?_ ?_
 ·rintro i ys H' ⟨_,rfl⟩;rw [List.length_map,List.length_replicate];exact Nat.le_refl _
 ·rintro i ys H' ⟨s,_⟩;exact SqL.of (s _ _ hl)
 ·rintro i x ys H' hx ⟨s,rfl⟩;obtain ⟨a,ha,rfl⟩:=a2q hx;obtain ⟨r,hr,hra⟩:=hW.get ha;fail "go";refine ⟨a,n,r,rfl,Rt.same s hra,hok r (List.mem_of_getElem? hr),hn,fun H2 s2=>⟨s.trans s2,?_⟩⟩;rw [List.replicate_succ',List.map_append];rfl
 ·rintro ys H1 ⟨s1,rfl⟩ p1 hp1;fail "go";refine st_all (SqL.of a0c) ?_;rw [all_rep];have S1:=s1.trans (a0e hp1 (.lst ((List.replicate (a1q as).length true).map V.bl)));generalize upd H1 p1 (.lst ((List.replicate (a1q as).length true).map V.bl)) = G1 at S1 ⊢;fail "go";refine ⟨l,as,rs,rfl,S1 _ _ hl,hW.mono fun a d x=>Rt.same S1 x,by omega,fun H2 s2=>?_⟩;have S2:=S1.trans s2
  cases hB:allB rs with
  | false=>
   fail "go";exact ⟨by decide,qe H2 S2 fun z=>by rw [allB_true z.gd.2.1] at hB; cases hB⟩
  | true=>
  have W2:a5d (Rt K H2) as rs:=hW.mono fun a d x=>Rt.same S2 x;fail "go";refine a3v (fun P h=>⟨_,rfl,h⟩) (SqL.of (S2 _ _ hl)) (fun i ys H'=>H' = H2/\ys=vn ((rs.take i).map (sn n))) (by rw [a0n]; omega) ⟨rfl,rfl⟩ ?_ ?_ ?_ ?_
  ·rintro i ys H' ⟨_,rfl⟩;rw [a6a,List.length_map,List.length_take];omega
  ·rintro i ys H' ⟨rfl,_⟩;exact SqL.of (S2 _ _ hl)
  ·rintro i x ys H' hx ⟨rfl,rfl⟩;obtain ⟨b,hb,rfl⟩:=a2q hx;obtain ⟨r,hr,hrb⟩:=W2.get hb;have ok:=hok r (List.mem_of_getElem? hr);fail "go";refine ⟨b,n,r,rfl,SqT.of hrb,ok.x,(ok.to40 hn).z,hn,rfl,?_⟩;rw [a0q hr,List.map_append,<- vn_app];rfl
  ·rintro ys H' ⟨rfl,rfl⟩ p4 hp4;rw [a0n,lrs,List.take_length];have S4:=S2.trans (a0e hp4 (.lst (vn (rs.map (sn n)))));have f4:(upd H' p4 (.lst (vn (rs.map (sn n))))) p4=some (.lst (vn (rs.map (sn n)))):=a0c;generalize upd H' p4 (.lst (vn (rs.map (sn n)))) = H4 at S4 f4 ⊢;fail "go";refine ⟨p4,rs.map (sn n),rfl,f4,by rw [List.length_map]; omega,fun H5 ss s5 ok hz=>?_⟩
   by_cases ce:ss.length=(rs.map (sn n)).length
   ·rw [decide_eq_true ce];fail "go";exact q H5 (S4.trans s5) ⟨lrn,allB_com hB,ok.dep ce⟩
   ·rw [decide_eq_false ce];fail "go";exact ⟨by decide,qe H5 (S4.trans s5) fun ⟨ds,hds,w⟩=>ce (w.apart hds ok hz)⟩
include a1r a0z b0u in theorem b5g (F:Fun K "check_wires" "check_wires" a6q f fd):a4p P w K mg base (CXE P w) 2 f fd ["wires","n"] (a8u K a4s):=by
 refine F.okE a5y (by fail "l3") (fun cdv A outer s H vs Q E hr h=>?_);obtain ⟨l,n,ws,rfl,hl,hz,q,qe⟩:=h
 refine ⟨_,(a0g (a6f PassesOwn.leaving rfl (b8d rfl a1r (a0a (pv 0) a0f)) (b1z rfl (a1m (a1c (i:=2) a5y.nd rfl (Or.inl rfl)) (a1m (a1c (i:=3) a5y.nd rfl (Or.inl rfl)) a8e))) (a0b (a3g (PW.pt (pw_or (b0m (a7p (a2f a0z hr a1z (a0a (pv 3) a0f)))) (pw_or (a0v (op_lt) (pv 3) a0d (a1d _)) (pw_or1 (a0v (op_ge) (pv 3) (pv 1) (a1d _)))))) (a0g (a3x b0u a5v (a0a a1j a0f) rfl)) a1e)
   (a0g (a3g (a0v (op_inK (K:=K) rfl) (pv 3) (b0c (b3e) (pv 0) b7t (b1r (pv 2))) rfl) (a0g (a3x b0u a5v (a0a a1j a0f) rfl)) a1e))))),?_⟩
 fail "st";fail "go";refine st_enE ?_;fail "go";refine st_enAt hl (fun i σ H'=>∃ (u v:Option V),σ=[some (.ref l),some (.int n),u,v]/\a1u H H'/\GW n (ws.take i)) ⟨none,none,rfl,a1u.refl _,List.nodup_nil,fun _ z=>(nomatch z)⟩ ?_ ?_ ?_
 ·rintro i σ H' _ ⟨_,_,_,s,_⟩;exact s.seq hl
 ·rintro i y σ H' p hy ⟨u,v,rfl,s,gw⟩ hp;obtain ⟨k,rfl⟩:=int_get hy;have hk:=intAt hy;have S:=s.trans (a0e hp (.tup [.int (i:Int),.int k]));have t3:SqT K (upd H' p (.tup [.int (i:Int),.int k])) p [.int (i:Int),.int k]:=SqT.of a0c;generalize upd H' p (.tup [.int (i:Int),.int k]) = G at S t3 ⊢;have sG:=S.seq hl;fail "go";refine ⟨_,true,rfl,WN.flat K _ rfl,?_⟩;fail "go";refine iteD (fun c=>?_) (fun c0=>?_)
  ·fail "go";exact ⟨by decide,qe G S fun g=>by have:=(g.2 k (List.mem_of_getElem? hk)).1; omega⟩
  fail "go";refine iteD (fun c=>?_) (fun c1=>?_)
  ·fail "go";exact ⟨by decide,qe G S fun g=>by have:=(g.2 k (List.mem_of_getElem? hk)).2; omega⟩
  fail "go";rename_i p2 hp2;have ec:cutV (ws.map V.int) none (some (i:Int)) = (ws.take i).map V.int:=(cut_takeV _ _).trans (List.map_take ..).symm;rw [ec];refine ⟨p2,_,rfl,.inl (SqL.of a0c),rfl,ints_fl _,?_⟩;have S2:=S.trans (a0e hp2 (.lst ((ws.take i).map V.int)));generalize upd G p2 (.lst ((ws.take i).map V.int)) = G2 at S2 ⊢;rw [inV_ints]
  by_cases cm:k ∈ ws.take i
  ·rw [decide_eq_true cm];fail "go";exact ⟨by decide,qe G2 S2 (gw_twice hk cm)⟩
  ·rw [decide_eq_false cm];fail "go";exact ⟨_,_,rfl,S2,gw_snoc gw hk (by omega) (by omega) cm⟩
 ·rintro σ H' ⟨u,v,rfl,s,gw⟩;fail "go";rw [List.length_map,List.take_length] at gw;exact q H' s gw
include g_XS g_ZS a8b in theorem ok_at_wires (F:Fun K "at_wires" "at_wires" b1n f fd):a4p P w K mg base CX0 1 f fd ["row","wires"] (b4r K):=by
 refine F.ok sc_at_wires (by fail "l3") (fun cdv A outer s H vs Q E hr h=>?_);obtain ⟨a,r,w,rfl,ha,q⟩:=h;refine ⟨_,(a0g (a0x (a2r (a0a (a0w (a0r) (pv 0) (b1a a8b) (fun _ _=>rfl)) (a0a (a0j (a2g) (a0w (a0r) (pv 0) (b1a g_XS) (fun _ _=>rfl)) (pv 1)) (a0a (a0j (a2g) (a0w (a0r) (pv 0) (b1a g_ZS) (fun _ _=>rfl)) (pv 1)) a0f)))))),?_⟩;fail "st";unfold Row.V at ha;fail "go";rename_i p hp;exact q p hp
include T_S a4f a6v b3b a1t a4r a4t b_sum a8t in theorem ok_common (F:Fun K "common" "common" b0k f fd):a4p P w K mg base (CXE P w) 7 f fd ["rows","wires","n"] (sp_common K a3f a4s):=by
 refine F.okE a9y (by fail "l6") (fun cdv A outer s H vs Q E hr h=>?_);obtain ⟨l,lw,n,as,rs,ws,rfl,hl,hW,hok,hz,hn,hw,hwz,q,qe,qw⟩:=h
 refine ⟨_,(a0b (a2y (a2f a4r hr passE (a0a (pv 0) (a0a (pv 2) a0f))))
   (a0b (a2y (a2f a4t hr passE (a0a (pv 1) (a0a (pv 2) a0f))))
   (a0b (a0p (i:=3) a9y.nd rfl (Or.inr rfl) (a1w (call_sumL rfl) rfl b_sum boot_sum (a0a (a6x (sc:=a0k b0k) rfl ⟨rfl,by decide +kernel,rfl,by decide +kernel,by decide +kernel,by decide +kernel,by decide +kernel⟩ (by show ("k":Str) ∉ (["rows","wires","n","mask","cut"]:List Str); decide +kernel) (by show (".0":Str) ∉ (["rows","wires","n","mask","cut"]:List Str); decide +kernel) a9y.nd rfl (a3s (pv 1)) (fun _ _ _ _=>a5s) (fun _ _ _ _=>(a0j (a2d) a0d (pv 0)))) a0f)))
   (a0b (b7q (i:=4) rfl (Or.inl rfl) (sc:=a0k b0k) rfl ⟨rfl,by decide +kernel,rfl,by decide +kernel,by decide +kernel,by decide +kernel,by decide +kernel⟩ (by show ("row":Str) ∉ (["rows","wires","n","mask","cut"]:List Str); decide +kernel) (by show (".0":Str) ∉ (["rows","wires","n","mask","cut"]:List Str); decide +kernel) a9y.nd rfl (a3s (pv 0)) (fun _ _ _ _=>a5s) (fun _ _ _ _=>(a2f a1t hr a1z (a0a (a2f a8t hr a1z (a0a (pv 0) (a0a (pv 4) a0f))) (a0a (pv 3) a0f)))))
   (a0g (a0x (a0j (a6b) (pe_md0 a6v hr a1z (pe_new b3b hr a1z (a0a (pv 4) a0f))) (a1w (a3k) rfl a4f PySem.boot_len (a0a (pv 1) a0f))))))))),?_⟩
 fail "st";fail "go";refine ⟨l,n,as,rs,rfl,hl,hW,hok,hz,hn,fun H1 s1 gd=>?_,fun H1 s1 hno=>qe H1 s1 hno⟩;fail "go";refine ⟨lw,n,ws,rfl,s1.seq hw,hwz,fun H2 s2 gw=>?_,fun H2 s2 ng=>qw H2 (s1.trans s2) gd ng⟩;obtain ⟨A,rfl,nd,hA⟩:=gw_nat gw;have S2:=s1.trans s2;have hw2:=S2.seq hw;rw [b6y] at hw2;fail "go";have lA:A.length <= 200:=by rw [List.length_map] at hwz; exact hwz
 refine a3v (fun P h=>⟨_,rfl,h⟩) hw2 (fun i ys H'=>H' = H2/\ys=vn ((A.take i).map fun k=>2 ^ k)) (by rw [a6a]; omega) ⟨rfl,rfl⟩ ?_ ?_ ?_ ?_
 ·rintro i ys H' ⟨_,rfl⟩;rw [a6a,List.length_map,List.length_take];omega
 ·rintro i ys H' ⟨rfl,_⟩;exact hw2
 ·rintro i x ys H' hx ⟨rfl,rfl⟩;obtain ⟨k,rfl,hk⟩:=vn_at hx;have hkn:=hA k (List.mem_of_getElem? hk);fail "go";refine ⟨rfl,?_⟩;rw [a0q hk,List.map_append,<- vn_app];rfl
 ·rintro ys H' ⟨rfl,rfl⟩ p3 hp3;rw [a6a,List.take_length];have S3:=S2.trans (a0e hp3 (.lst (vn (A.map fun k=>2 ^ k))));have f3:SqL K (upd H' p3 (.lst (vn (A.map fun k=>2 ^ k)))) p3 (((A.map fun k=>2 ^ k).map fun k:Nat=>(k:Int)).map V.int):=by rw [b6y]; exact SqL.of a0c
  generalize upd H' p3 (.lst (vn (A.map fun k=>2 ^ k))) = H3 at S3 f3 ⊢;fail "go";refine st_sum f3 ?_;have es:((A.map fun k=>2 ^ k).map fun k:Nat=>(k:Int)).sum=((smP A:Nat):Int):=cast_sum _;rw [es];have hl3:=S3 _ _ hl;have W3:=hW.mono fun a d (x:Rt K H a d)=>Rt.same S3 x;have hmk:=b0g nd hA;fail "go";refine a3v (fun P h=>⟨_,rfl,h⟩) (SqL.of hl3) (fun i ys H'=>a1u H3 H'/\ys=vn ((rs.take i).map fun r=>sn n (cutr (smP A) r))) (by rw [a0n]; omega) ⟨a1u.refl _,rfl⟩ ?_ ?_ ?_ ?_
  ·rintro i ys H' ⟨_,rfl⟩;rw [a6a,List.length_map,List.length_take];omega
  ·rintro i ys H' ⟨s,_⟩;exact SqL.of (s _ _ hl3)
  ·rintro i x ys H' hx ⟨s,rfl⟩;obtain ⟨b,hb,rfl⟩:=a2q hx;obtain ⟨r,hr,hrb⟩:=W3.get hb;have ok:=hok r (List.mem_of_getElem? hr);fail "go";refine ⟨b,r,smP A,rfl,SqT.of (Rt.same s hrb),fun p4 hp4=>?_⟩;fail "go";refine ⟨p4,n,cutr (smP A) r,rfl,SqT.of a0c,Nat.lt_of_le_of_lt Nat.and_le_left ok.x,Nat.lt_of_le_of_lt Nat.and_le_left (ok.to40 hn).z,hn,s.trans (a0e hp4 _),?_⟩;rw [a0q hr,List.map_append,<- vn_app];rfl
  ·rintro ys H' ⟨s,rfl⟩ p4 hp4;rw [a0n,hW.len,List.take_length];have S4:=(S3.trans s).trans (a0e hp4 (.lst (vn (rs.map fun r=>sn n (cutr (smP A) r)))));have f4:(upd H' p4 (.lst (vn (rs.map fun r=>sn n (cutr (smP A) r))))) p4=some (.lst (vn (rs.map fun r=>sn n (cutr (smP A) r)))):=a0c;generalize upd H' p4 (.lst (vn (rs.map fun r=>sn n (cutr (smP A) r)))) = H4 at S4 f4 ⊢;have lus:(rs.map fun r=>sn n (cutr (smP A) r)).length <= 100:=by rw [List.length_map,<- hW.len]; exact hz
   fail "go";intro xo dx nx ndx nxd;refine ⟨xo,p4,dx,_,rfl,a0c,?_,lus,fun H5 l5 ss oth hl5 hS=>⟨rfl,?_⟩⟩
   ·rw [a0m (a0h f4 nx),a0m (a0h f4 ndx)];exact f4
   have S5:a1u H4 H5:=fun c o e=>by
    have n1:c ≠ xo:=a0h e nx;have n2:c ≠ dx:=a0h e ndx;exact oth c o n1 (by rw [a0m n1,a0m n2]; exact e)
   obtain ⟨dx',as',hp',hl',hss,ok,hz5⟩:=id hS;refine st_md1 hp' (b8g _ _ (by decide +kernel) (by decide +kernel)) ?_;fail "go";refine ⟨xo,l5,_,ss,rfl,hS,lus,?_⟩
   have sw5:SqL K H5 lw (vn A):=by
    have:=(S4.trans S5).seq hw;rw [b6y] at this;exact this
   fail "go";rw [a6a];exact q H5 ss.length A (S4.trans S5) gd rfl nd hA (Rk.of hok nd hA ok)
include a2z in theorem b5d (F:Fun K "_law_stream" "_law_stream" a7b f fd):a4p P w K mg base CX0 1 f fd ["_law_cell","_law_many"] (a9a K):=by
 refine F.ok a1h (by fail "l2") (fun cdv A outer s H vs Q E hr h=>?_);obtain ⟨c,m,rfl,hm,q⟩:=h
 refine ⟨_,(a0b (a0p (i:=2) a1h.nd rfl (Or.inl rfl) (b3p a0f))
   (a0b (a3g (a0v (a6n) (a0j (a8x) (pv 0) a0d) a0d (a1d _)) (a0b (a0p (i:=3) a1h.nd rfl (Or.inl rfl) (a0j (b0f) (pv 0) a0d))
   (a0b (a6f PassesOwn.never rfl (a3z rfl a2z (a0a (pv 1) a0f)) (a1c (i:=4) a1h.nd rfl (Or.inl rfl)) (a0b (a2y (pe_bm PySem.F.plainAttrs_list PySem.F.slot_list_append PySem.F.type_list_append a6k (pv 2) (a0a (a0j (a8x) (pv 3) (a0j (op_pow) a0d a0d)) a0f)))
   (a0g (a0p (i:=3) a1h.nd rfl (Or.inl rfl) (a0j (b0f) (pv 3) (a0j (op_pow) a0d a0d))))))
   (a0g (a0x (pv 2))))) a1e)
   (a0b (a0p (i:=5) a1h.nd rfl (Or.inl rfl) (a0j (a4a) (a0j (a8x) (pv 0) (a0j (a4a) (a0j (op_pow) a0d a0d) a0d)) a0d))
   (a0b (a6f PassesOwn.never rfl (a3z rfl a2z (a0a (a0j (a4a) (pv 1) a0d) a0f)) (a1c (i:=4) a1h.nd rfl (Or.inl rfl)) (a0b (a0p (i:=5) a1h.nd rfl (Or.inl rfl) (a0j (a8x) (a0j (a4a) (a0j (a4a) (a0j (op_mulW) (pv 5) (pv 5)) (a0j (op_mulW) a0d (pv 5))) (pv 4)) (a0j (a4a) (a0j (op_pow) a0d a0d) a0d)))
   (a0g (a2y (pe_bm PySem.F.plainAttrs_list PySem.F.slot_list_append PySem.F.type_list_append a6k (pv 2) (a0a (pv 5) a0f))))))
   (a0g (a0x (b0c (b3e) (pv 2) (b1r a0d) b7t))))))),?_⟩
 fail "st";fail "go";rename_i p hp;refine iteD (fun _=>?_) (fun _=>?_)
 ·fail "go";refine a4g (n:=m) (by omega) (fun P h=>⟨_,rfl,h⟩) (fun i σ H'=>∃ (x:Int) (u:Option V) (ns:List Int),σ=[some (.int c),some (.int m),some (.ref p),some (.int x),u,none]/\H' p=some (.lst (ns.map V.int))/\a1u H H'/\ns.length=i/\∀ y ∈ ns,0 <= y) ⟨_,none,[],rfl,a0c,a0e hp _,rfl,fun _ z=>(nomatch z)⟩ ?_ ?_
  ·rintro i σ H' hi ⟨x,u,ns,rfl,hpH,hS,hl,hall⟩;have hpl:SqL K H' p (ns.map V.int):=SqL.of hpH;have hle:(ns.map V.int).length <= 900:=by rw [List.length_map]; omega
   fail "go"
   exact ⟨_,_,ns ++ [x % 10 ^ Int.toNat 40],rfl,by rw [a0c,List.map_append]; rfl,But.same hS But.upd hp,by rw [List.length_append,hl]; rfl,fun y hy=>by
    rcases List.mem_append.1 hy with z | z
    ·exact hall y z
    ·rw [List.mem_singleton.1 z]; exact Int.emod_nonneg _ (by decide)⟩
  ·rintro σ H' ⟨x,u,ns,rfl,hpH,hS,hl,hall⟩;fail "go";exact q p _ ns hS hpH hl hall
 fail "go";have em:(10:Int) ^ Int.toNat 40 + 121=10 ^ 40 + 121:=rfl;have b0:(0:Int) < 10 ^ 40 + 121:=by decide
 have b1:(10:Int) ^ 40 + 121 + 48271 < 10 ^ 41:=by decide
 rw [em];refine a4g (n:=m + 4) (by omega) (fun P h=>?_) (fun i σ H'=>∃ (x:Int) (u:Option V) (ns:List Int),σ=[some (.int c),some (.int m),some (.ref p),none,u,some (.int x)]/\H' p=some (.lst (ns.map V.int))/\a1u H H'/\ns.length=i/\0 <= x/\x < 10 ^ 41/\∀ y ∈ ns,0 <= y) ⟨_,none,[],rfl,a0c,a0e hp _,rfl,?_,?_,fun _ z=>(nomatch z)⟩ ?_ ?_
 ·fail "go";exact h
 ·have:=Int.emod_nonneg c (Int.ne_of_gt b0);omega
 ·have:=Int.emod_lt_of_pos c b0;omega
 ·rintro i σ H' hi ⟨x,u,ns,rfl,hpH,hS,hl,x0,x1,hall⟩;have hpl:SqL K H' p (ns.map V.int):=SqL.of hpH;have hle:(ns.map V.int).length <= 900:=by rw [List.length_map]; omega
  fail "go";refine st_i (cmulW x0 x1 x0 x1) ?_;fail "go";refine st_i (cmulW (by decide) (by decide) x0 x1) ?_;fail "go";rw [em];have y0:=Int.emod_nonneg (x * x + 48271 * x + (i:Int)) (Int.ne_of_gt b0);have y1:=Int.emod_lt_of_pos (x * x + 48271 * x + (i:Int)) b0
  exact ⟨_,_,ns ++ [(x * x + 48271 * x + (i:Int)) % (10 ^ 40 + 121)],rfl,by rw [a0c,List.map_append]; rfl,But.same hS But.upd hp,by rw [List.length_append,hl]; rfl,y0,by omega,fun y hy=>by
   rcases List.mem_append.1 hy with z | z
   ·exact hall y z
   ·rw [List.mem_singleton.1 z]; exact y0⟩
 ·rintro σ H' ⟨x,u,ns,rfl,hpH,hS,hl,x0,x1,hall⟩;have hpl:SqL K H' p (ns.map V.int):=SqL.of hpH;fail "go";rename_i p2 hp2
  have ec:cutV (ns.map V.int) (some 4) none=(ns.drop 4).map V.int:=by
   rw [show (4:Int) = ((4:Nat):Int) from rfl,cut_dropV,List.map_drop]
  rw [ec];exact q p2 _ _ (hS.trans (a0e hp2 _)) a0c (by rw [List.length_drop]; omega) (fun x hx=>hall x (List.mem_of_mem_drop hx))
include a2c b_max in theorem ok__law_deed (F:Fun K "_law_deed" "_law_deed" a9r f fd):a4p P w K mg base CX0 2 f fd ["_law_cell","_law_n"] (b1t K):=by
 refine F.ok a4b (by fail "l2") (fun cdv A outer s H vs Q E hr h=>?_);obtain ⟨c,n,rfl,h0,hn,q⟩:=h
 refine ⟨_,(a0b (a0p (i:=2) a4b.nd rfl (Or.inl rfl) (a0w (a6t) (a2f a2c hr a1z (a0a (pv 0) (a0a a0d a0f))) a0d (fun _ _=>rfl)))
   (a0b (a0p (i:=3) a4b.nd rfl (Or.inl rfl) (a0j (a8x) (a0j (b0f) (pv 2) a0d) (pv 1)))
   (a0b (a0p (i:=4) a4b.nd rfl (Or.inl rfl) (a0j (a8x) (a0j (a4a) (a0j (a4a) (pv 3) a0d) (a0j (a8x) (a0j (b0f) (pv 2) a0d) (a1w (call_max2 rfl) rfl b_max boot_max (a0a a0d (a0a (a0j (a6b) (pv 1) a0d) a0f))))) (pv 1)))
   (a0b (a0p (i:=5) a4b.nd rfl (Or.inl rfl) (a0w (a6t) (b3p (a0a a1j (a0a a1j (a0a a1j (a0a a1j (a0a a1j (a0a a1j (a0a a1j (a0a a1j a0f))))))))) (a0j (a8x) (pv 2) a0d) (fun _ _=>rfl)))
   (a0b (a3g (a0v (op_in_seq) (pv 5) (a2r (a0a a1j (a0a a1j a0f))) rfl) (a0b (a3g (a0v (a6n) (pv 1) a0d (a1d _)) (a0g (a0x (a2r (a0a a1j (a0a a0d a0f))))) a1e)
   (a0g (a0x (a2r (a0a (pv 5) (a0a (pv 3) (a0a (pv 4) a0f))))))) a1e)
   (a0g (a0x (a2r (a0a (pv 5) (a0a (pv 3) a0f)))))))))),?_⟩
 fail "st";fail "go";refine ⟨c,1,rfl,by decide,fun p H1 ns hS1 hp1 hl1 _=>?_⟩;obtain ⟨x,rfl⟩:=len1I hl1;have hpl:SqL K H1 p [.int x]:=SqL.of hp1;fail "go";rename_i j ej hj;refine ⟨1,(n:Int) - 1,rfl,?_⟩;have hM:(0:Int) < (if (n:Int) - 1 > 1 then (n:Int) - 1 else 1):=by split <;> omega
 refine st_i hM ?_;fail "go";rename_i i ei hi pl kpl;obtain ⟨m8,e8,h8⟩:=emod_nat x (n:=8) (by decide);rw [show x % 8=(m8:Int) from e8];refine st_ixL (SqL.of a0c) (at_k8 h8) ?_;fail "go";rename_i pt kpt;refine st_inT (SqT.of a0c) rfl rfl ?_;rw [if_neg Bool.false_ne_true,in_two];fail "go";refine iteD (fun c2=>?_) (fun c2=>?_)
 ·fail "go";refine iteD (fun c1=>?_) (fun c1=>?_)
  ·fail "go";rename_i p2 hp2;exact q p2 _ ⟨.both,[0]⟩ (by fail "sm") a0c ⟨rfl,fun x hx=>by rw [List.mem_singleton.mp hx]; exact h0,by simp⟩
  ·fail "go";rename_i p2 hp2;have hMn:(if (n:Int) - 1 > 1 then (n:Int) - 1 else 1) = (n:Int) - 1:=by split <;> omega
   rw [hMn] at ei;have hji:j ≠ i:=ne_modI hj (Int.emod_nonneg _ (by omega)) (Int.emod_lt_of_pos _ (by omega)) ei;refine q p2 _ ⟨k8 m8,[j,i]⟩ (by fail "sm") a0c ⟨c2.symm,fun x hx=>?_,by simp [hji]⟩
   rcases List.mem_cons.mp hx with rfl | hx
   ·exact hj
   ·rw [List.mem_singleton.mp hx];exact hi
 ·fail "go";rename_i p2 hp2;have hk0:=(k8 m8).n_pos;exact q p2 _ ⟨k8 m8,[j]⟩ (by fail "sm") a0c ⟨by show 1=(k8 m8).n; omega,fun x hx=>by rw [List.mem_singleton.mp hx]; exact hj,by simp⟩
theorem ok__law_put (F:Fun K "_law_put" "_law_put" b1m f fd):a4p P w K mg base CX0 1 f fd ["_law_found","_law_b","_law_re","_law_im"] (b4c K):=by
 refine F.ok b3n (by fail "l4") (fun cdv A outer s H vs Q E hr h=>?_);obtain ⟨f,b,re,im,rfl,ws,kvs,hf,hw,hl,q⟩:=h
 refine ⟨_,(a0b (a0p (i:=4) b3n.nd rfl (Or.inl rfl) (pe_dget2 (hu_of hr) (pv 0) (pv 1) (a2r (a0a a0d (a0a a0d a0f))) ⟨rfl,rfl,rfl,rfl⟩))
   (a0g (ps_dput (hu_of hr) (pv 0) (pv 1) (a2r (a0a (a0j (a4a) (a0w (a0r) (pv 4) a0d (fun _ _=>rfl)) (pv 2)) (a0a (a0j (a4a) (a0w (a0r) (pv 4) a0d (fun _ _=>rfl)) (pv 3)) a0f))) rfl))),?_⟩
 fail "st";fail "go";refine ⟨f,rfl,.inl ⟨kvs,.inl hf⟩,?_⟩;fail "go";rename_i p1 hp1;have hf1:upd H p1 (.tup [.int 0,.int 0]) f=some (.dK kvs):=a0e hp1 _ _ _ hf;refine ⟨_,dget_z (.inl hf1),?_⟩
 have fin:∀ p2 (x:Int × Int),(upd H p1 (.tup [.int 0,.int 0])) p2=none->x=(wat ws b).getD (0,0)->
   Q .non (upd (upd (upd H p1 (.tup [.int 0,.int 0])) p2 (.tup [.int (x.1 + re),.int (x.2 + im)])) f (.dK (b7h kvs (.inl ((b:Nat):Int)) (.ref p2)))):=fun p2 x hp2 hx=>by
  have hS2:=(a0e hp1 (.tup [.int 0,.int 0])).trans (a0e hp2 (.tup [.int (x.1 + re),.int (x.2 + im)]));have hf2:=hS2 _ _ hf
  have hB:But f (upd (upd H p1 (.tup [.int 0,.int 0])) p2 (.tup [.int (x.1 + re),.int (x.2 + im)])) (upd (upd (upd H p1 (.tup [.int 0,.int 0])) p2 (.tup [.int (x.1 + re),.int (x.2 + im)])) f (.dK (b7h kvs (.inl ((b:Nat):Int)) (.ref p2)))):=fun c o hc e=>by
   rw [a0m hc];exact e
  refine q _ _ a0c ?_ (But.of hS2 hB);have hw2:=hw.stay (K:=K) (H':=upd (upd H p1 (.tup [.int 0,.int 0])) p2 (.tup [.int (x.1 + re),.int (x.2 + im)])) fun a xs s=>hS2.tup s;have hw3:=hw2.put (b:=b) (p:=(x.1 + re,x.2 + im)) (a:=p2) (SqT.of a0c);unfold b5u;rw [<- hx];exact hw3.stay (hB.tup hf2)
 rcases hw.val b with ⟨e1,e2⟩ | ⟨a',p',e1,e2,e3⟩
 ·rw [show atZ kvs ((b:Nat):Int) = none from e1];have h01:SqT K (upd H p1 (.tup [.int 0,.int 0])) p1 [.int 0,.int 0]:=SqT.of a0c;rw [show Option.getD (none:Option V) (V.ref p1) = V.ref p1 from rfl];fail "go";rename_i p2 hp2;refine ⟨f,_,rfl,dput_z (a0e hp2 _ _ _ hf1) (by rw [hw.len]; omega),?_⟩;fail "go";have z:=fin p2 (0,0) hp2 (by rw [e2]; rfl)
  simpa using z
 ·rw [show atZ kvs ((b:Nat):Int) = some (.ref a') from e1];have h01:=(a0e hp1 (.tup [.int 0,.int 0])).tup e2;rw [show Option.getD (some (V.ref a')) (V.ref p1) = V.ref a' from rfl];fail "go";rename_i p2 hp2;refine ⟨f,_,rfl,dput_z (a0e hp2 _ _ _ hf1) (by rw [hw.len]; omega),?_⟩;fail "go";exact fin p2 p' hp2 (by rw [e3]; rfl)
theorem b8c (F:Fun K "_law_moved" "_law_moved" a8a f fd):a4p P w K mg base CX0 1 f fd ["_law_words","_law_b"] (b0h K):=by
 refine F.ok a7h (by fail "l4") (fun cdv A outer s H vs Q E hr h=>?_);obtain ⟨w,b,⟨k,ww⟩,n,rfl,hw,ok,hn,hk,q⟩:=h
 refine ⟨_,(a0b (a0p (i:=2) a7h.nd rfl (Or.inl rfl) (a0w (a0r) (pv 0) (pe_un un_neg a0d) (fun _ _=>rfl)))
   (a0b (a3g (a0v (a6n) (a0w (a0r) (pv 0) a0d (fun _ _=>rfl)) a1j (a1d _)) (a0g (a0x (a0j (a1g) (pv 1) (a0j (a2d) a0d (pv 2))))) a1e)
   (a0b (a3g (a0v (a6n) (a0w (a0r) (pv 0) a0d (fun _ _=>rfl)) a1j (a1d _)) (a0g (a0x (a0j (a1g) (pv 1) (a0j (a2d) (a0j (a2g) (a0j (a7v) (pv 1) (a0w (a0r) (pv 0) a0d (fun _ _=>rfl))) a0d) (pv 2))))) a1e)
   (a0b (a3g (a0v (a6n) (a0w (a0r) (pv 0) a0d (fun _ _=>rfl)) a1j (a1d _)) (a0b (a0p (i:=3) a7h.nd rfl (Or.inl rfl) (a0j (a1g) (a0j (a2g) (a0j (a7v) (pv 1) (pv 2)) a0d) (a0j (a2g) (a0j (a7v) (pv 1) (a0w (a0r) (pv 0) a0d (fun _ _=>rfl))) a0d)))
   (a0g (a0x (a0j (a1g) (a0j (a1g) (pv 1) (a0j (a2d) (pv 3) (pv 2))) (a0j (a2d) (pv 3) (a0w (a0r) (pv 0) a0d (fun _ _=>rfl))))))) a1e)
   (a0g (a0x (pv 1))))))),?_⟩
 fail "st";have hlen:=ok.len;have hlt:=ok.lt;have hnd:=ok.nd;unfold Wt at hw;dsimp only at hw hlen hlt hnd q hk
 cases k with
 | over=>
  obtain ⟨i,rfl⟩:=a2p hlen;have hi:i < n:=hlt i (by simp);have hw':SqT K H w [.str (DK.word .over),.int (i:Nat)]:=SqT.of hw;fail "kw";exact q (b ^^^ 2 ^ i) (fun _ _ _=>rfl) (fun z=>by rcases z with z | z <;> cases z)
 | quarter=>
  obtain ⟨i,rfl⟩:=a2p hlen;have hi:i < n:=hlt i (by simp);have hw':SqT K H w [.str (DK.word .quarter),.int (i:Nat)]:=SqT.of hw;fail "kw";exact q b (fun _ z=>absurd rfl z) (fun _=>rfl)
 | back=>
  obtain ⟨i,rfl⟩:=a2p hlen;have hi:i < n:=hlt i (by simp);have hw':SqT K H w [.str (DK.word .back),.int (i:Nat)]:=SqT.of hw;fail "kw";exact q b (fun _ _ z=>absurd rfl z) (fun _=>rfl)
 | both=>exact absurd rfl hk
 | wher=>
  obtain ⟨i,j,rfl⟩:=a4e hlen;have hi:i < n:=hlt i (by simp);have hj:j < n:=hlt j (by simp);have hw':SqT K H w [.str (DK.word .wher),.int (i:Nat),.int (j:Nat)]:=SqT.of hw;fail "kw";exact q _ (fun _ _ _=>rfl) (fun z=>by rcases z with z | z <;> cases z)
 | swap=>
  obtain ⟨i,j,rfl⟩:=a4e hlen;have hi:i < n:=hlt i (by simp);have hj:j < n:=hlt j (by simp)
  have hij:i ≠ j:=by
   intro z;subst z;simp at hnd
  have hw':SqT K H w [.str (DK.word .swap),.int (i:Nat),.int (j:Nat)]:=SqT.of hw;fail "kw";refine q _ (fun p _ _=>?_) (fun z=>by rcases z with z | z <;> cases z)
  show [(clr (clr b i) j + (b.testBit j).toNat * 2 ^ i + (b.testBit i).toNat * 2 ^ j,p)] = _;rw [b2r hij];unfold ex;rw [Bool.xor_comm (b.testBit j),Nat.xor_assoc,Nat.xor_assoc,Nat.xor_comm ((b.testBit i ^^ b.testBit j).toNat * 2 ^ i)]
include a2n a5f in theorem ok__law_done (F:Fun K "_law_done" "_law_done" a9j f fd):a4p P w K mg base CX0 2 f fd ["_law_words","_law_numbers"] (b1v K):=by
 refine F.ok a2k (by fail "l5") (fun cdv A outer s H vs Q E hr h=>?_);obtain ⟨w,a,d,n,ws,rfl,hw,ok,hn,⟨kvs,ha,hWR⟩,nd,hl,q⟩:=h
 refine ⟨_,(a0b (a0p (i:=2) a2k.nd rfl (Or.inl rfl) pe_dnew)
   (a0b (a0p (i:=3) a2k.nd rfl (Or.inl rfl) (a0w (a0r) (pv 0) (pe_un un_neg a0d) (fun _ _=>rfl)))
   (a0b (ps_thaw (a6f PassesOwn.never rfl (pi_items (pv 1)) (b1z rfl (a1m (a1c (i:=4) a2k.nd rfl (Or.inl rfl)) (a1m (b1z rfl (a1m (a1c (i:=5) a2k.nd rfl (Or.inl rfl)) (a1m (a1c (i:=6) a2k.nd rfl (Or.inl rfl)) a8e))) a8e))) (a0b (a0p (i:=7) a2k.nd rfl (Or.inl rfl) (b1h (a6n) (a0j (a2g) (a0j (a7v) (pv 4) (pv 3)) a0d) a0d (a1d _)))
   (a0g (a3g (a0v (a6n) (a0w (a0r) (pv 0) a0d (fun _ _=>rfl)) a1j (a1d _)) (a0b (a2y (a2f a2n hr a1z (a0a (pv 2) (a0a (a0j (a2g) (pv 4) (a0j (a6b) (a0j (a6b) a0d a0d) (a0j (a2d) a0d (pv 3)))) (a0a (pv 5) (a0a (pv 6) a0f))))))
   (a0g (a3g (a7p (pv 7)) (a0g (a2y (a2f a2n hr a1z (a0a (pv 2) (a0a (pv 4) (a0a (a0j (a6b) a0d (pv 5)) (a0a (a0j (a6b) a0d (pv 6)) a0f))))))) (a0g (a2y (a2f a2n hr a1z (a0a (pv 2) (a0a (a0j (a1g) (pv 4) (a0j (a2d) a0d (pv 3))) (a0a (pv 5) (a0a (pv 6) a0f)))))))))) (a0g (a3g (PW.pt (pw_and (a0v (a6n) (a0w (a0r) (pv 0) a0d (fun _ _=>rfl)) a1j (a1d _)) (pw_and1 (a7p (pv 7))))) (a0g (a2y (a2f a2n hr a1z (a0a (pv 2) (a0a (pv 4) (a0a (a0j (a6b) a0d (pv 6)) (a0a (pv 5) a0f))))))) (a0g (a3g (PW.pt (pw_and (a0v (a6n) (a0w (a0r) (pv 0) a0d (fun _ _=>rfl)) a1j (a1d _)) (pw_and1 (a7p (pv 7))))) (a0g (a2y (a2f a2n hr a1z (a0a (pv 2) (a0a (pv 4) (a0a (pv 6) (a0a (a0j (a6b) a0d (pv 5)) a0f))))))) (a0g (a2y (a2f a2n hr a1z (a0a (pv 2) (a0a (a2f a5f hr a1z (a0a (pv 0) (a0a (pv 4) a0f))) (a0a (pv 5) (a0a (pv 6) a0f))))))))))))))))
   (a0g (a0x (pv 2)))))),?_⟩
 fail "st";have hlen:=ok.len;have hlt:=ok.lt;have hnd:=ok.nd;unfold Wt at hw;fail "go";rename_i p hp;have hpa:p ≠ a:=Ne.symm (a0h ha hp)
 have hj:∃ j:Nat,j < n/\atI (.str (DK.word d.k) :: vn d.w) (-1) = some (.int ((j:Nat):Int))/\((∃ i,d.w=[i,j])\/d.w=[j]):=by
  obtain ⟨k,ww⟩:=d;dsimp only at hlen hlt hnd ⊢
  cases k with
  | over | quarter | back | both=>
   obtain ⟨i,rfl⟩:=a2p hlen;exact ⟨i,hlt i (by simp),rfl,.inr rfl⟩
  | wher | swap=>
   obtain ⟨i,j,rfl⟩:=a4e hlen;exact ⟨j,hlt j (by simp),rfl,.inl ⟨i,rfl⟩⟩
 obtain ⟨j,hjn,hj1,hj2⟩:=hj;have hw':SqT K H w (.str (DK.word d.k) :: vn d.w):=SqT.of hw;refine st_ixT ((a0e hp _).tup hw') hj1 ?_;fail "go";refine st_for_items (fun P h=>⟨_,rfl,h⟩) (a0e hp _ _ _ ha) (fun o i σ H'=>∃ (u4 u5 u6 u7:Option V) (kvs':List (Key × V)),σ=[some (.ref w),some (.ref a),some (.ref p),some (.int (j:Int)),u4,u5,u6,u7]/\H' a=some (.frz o (.dK kvs))/\H' p=some (.dK kvs')/\WR K H' (a4m d (ws.take i)) kvs'/\(a4m d (ws.take i)).length <= 2 * i/\But a H H') ?_ ?_ ?_ ?_
 ·intro o;refine ⟨none,none,none,none,[],rfl,a0c,by rw [a0m hpa]; exact a0c,.nil,by simp [a4m],fun c o' hc e=>?_⟩;rw [a0m hc];exact a0e hp _ _ _ e
 ·rintro o i σ H' ⟨_,_,_,_,kvs',_,h1,_⟩;exact h1
 ·rintro o i k v σ H' x hget ⟨u4,u5,u6,u7,kvs',rfl,h1,h2,h3,h4,h5⟩ hx;obtain ⟨b,pp,a',e1,rfl,rfl,sq⟩:=hWR.get hget;have hil:i < ws.length:=(List.getElem?_eq_some_iff.mp e1).1;have sq':SqT K (upd H' x (.tup [kV (.inl ((b:Nat):Int)),.ref a'])) a' [.int pp.1,.int pp.2]:=(a0e hx _).tup (h5.tup ha _ _ sq);have hpp2:=a0e hx (.tup [kV (.inl ((b:Nat):Int)),.ref a']) _ _ h2;have ha2:=a0e hx (.tup [kV (.inl ((b:Nat):Int)),.ref a']) _ _ h1;have hB2:But a H (upd H' x (.tup [kV (.inl ((b:Nat):Int)),.ref a'])):=fun c o' hc e=>a0e hx _ _ _ (h5 _ _ hc e);have h3':=h3.stay (K:=K) (H':=upd H' x (.tup [kV (.inl ((b:Nat):Int)),.ref a'])) (fun y ys s=>(a0e hx _).tup s);have ht0:SqT K (upd H' x (.tup [kV (.inl ((b:Nat):Int)),.ref a'])) x [.int ((b:Nat):Int),.ref a']:=SqT.of a0c;generalize upd H' x (.tup [kV (.inl ((b:Nat):Int)),.ref a']) = G at sq' hpp2 ha2 hB2 h3' ht0 ⊢;have hwG:SqT K G w (.str (DK.word d.k) :: vn d.w):=SqT.of (hB2 _ _ (a9u hw ha (by intro z; cases z)) hw);have hst:=deedF_step (d:=d) e1;have lst:=adds_len (a3q d.k (d.w.getD 0 0) (d.w.getD 1 0) (b,pp)) (a4m d (ws.take i));have ldw:=deedW_len d.k (d.w.getD 0 0) (d.w.getD 1 0) (b,pp)
  have fin:∀ H3 kvs3 (v4 v5 v6 v7:Option V),H3 p=some (.dK kvs3)->WR K H3 (adds (a4m d (ws.take i)) (a3q d.k (d.w.getD 0 0) (d.w.getD 1 0) (b,pp))) kvs3->But p G H3->∃ (u4 u5 u6 u7:Option V) (kvs':List (Key × V)),[some (.ref w),some (.ref a),some (.ref p),some (.int (j:Int)),v4,v5,v6,v7] = [some (.ref w),some (.ref a),some (.ref p),some (.int (j:Int)),u4,u5,u6,u7]/\H3 a=some (.frz o (.dK kvs))/\H3 p=some (.dK kvs')/\WR K H3 (a4m d (ws.take (i + 1))) kvs'/\(a4m d (ws.take (i + 1))).length <= 2 * (i + 1)/\But a H H3:=fun H3 kvs3 v4 v5 v6 v7 g1 g2 g3=>by
   refine ⟨_,_,_,_,kvs3,rfl,g3 _ _ (Ne.symm hpa) ha2,g1,by rw [hst]; exact g2,by rw [hst]; omega,fun c o' hc e=>?_⟩;exact g3 _ _ (a0h e hp) (hB2 _ _ hc e)
  clear hst lst ldw;obtain ⟨k,ww⟩:=d;dsimp only at hlen hlt hnd hwG fin h3' hj2;have hwt:G w=some (.tup (.str (DK.word k) :: vn ww)):=hB2 _ _ (a9u hw ha (by intro z; cases z)) hw;have hle:(a4m ⟨k,ww⟩ (ws.take i)).length <= 240:=by omega
  clear hB2 h1 h2 h3 h4 h5 sq hw' hj1 hw
  cases k with
  | over=>
   obtain ⟨i',rfl⟩:=a2p hlen;obtain rfl:i' = j:=by rcases hj2 with ⟨_,z⟩ | z <;> simp at z; exact z
   have hwG':SqT K G w [.str (DK.word .over),.int (i':Nat)]:=hwG;fail "kw";refine ⟨w,b,⟨.over,[i']⟩,n,rfl,hwt,ok,hn,(fun z=>by cases z),fun b' hb' hb2=>?_⟩;fail "go";refine ⟨p,b',pp.1,pp.2,rfl,_,kvs',hpp2,h3',by omega,fun H3 kvs3 g1 g2 g3=>?_⟩;fail "go";exact fin H3 kvs3 _ _ _ _ g1 (by rw [hb' pp (fun z=>by cases z) (fun z=>by cases z)]; exact g2) g3
  | quarter=>
   obtain ⟨i',rfl⟩:=a2p hlen;obtain rfl:i' = j:=by rcases hj2 with ⟨_,z⟩ | z <;> simp at z; exact z
   have hwG':SqT K G w [.str (DK.word .quarter),.int (i':Nat)]:=hwG;fail "kw";rw [bI1]
   cases hc:b.testBit i' with
   | true=>
    fail "go";refine ⟨p,b,0 - pp.2,pp.1,rfl,_,kvs',hpp2,h3',by omega,fun H3 kvs3 g1 g2 g3=>?_⟩;fail "go";refine fin H3 kvs3 _ _ _ _ g1 ?_ g3;show WR K H3 (b5u _ b (a2h (b.testBit i').toNat pp)) kvs3;rw [hc];rw [Int.zero_sub] at g2;exact g2
   | false=>
    fail "kw";refine ⟨w,b,⟨.quarter,[i']⟩,n,rfl,hwt,ok,hn,(fun z=>by cases z),fun b' hb' hb2=>?_⟩;fail "go";refine ⟨p,b',pp.1,pp.2,rfl,_,kvs',hpp2,h3',by omega,fun H3 kvs3 g1 g2 g3=>?_⟩;fail "go";obtain rfl:=hb2 (.inl rfl);refine fin H3 kvs3 _ _ _ _ g1 ?_ g3;show WR K H3 (b5u _ b' (a2h (b'.testBit i').toNat pp)) kvs3;rw [hc];exact g2
  | back=>
   obtain ⟨i',rfl⟩:=a2p hlen;obtain rfl:i' = j:=by rcases hj2 with ⟨_,z⟩ | z <;> simp at z; exact z
   have hwG':SqT K G w [.str (DK.word .back),.int (i':Nat)]:=hwG;fail "kw";rw [bI1]
   cases hc:b.testBit i' with
   | true=>
    fail "go";refine ⟨p,b,pp.2,0 - pp.1,rfl,_,kvs',hpp2,h3',by omega,fun H3 kvs3 g1 g2 g3=>?_⟩;fail "go";refine fin H3 kvs3 _ _ _ _ g1 ?_ g3;show WR K H3 (b5u _ b (a2h (3 * (b.testBit i').toNat) pp)) kvs3;rw [hc];rw [Int.zero_sub] at g2;exact g2
   | false=>
    fail "kw";refine ⟨w,b,⟨.back,[i']⟩,n,rfl,hwt,ok,hn,(fun z=>by cases z),fun b' hb' hb2=>?_⟩;fail "go";refine ⟨p,b',pp.1,pp.2,rfl,_,kvs',hpp2,h3',by omega,fun H3 kvs3 g1 g2 g3=>?_⟩;fail "go";obtain rfl:=hb2 (.inr rfl);refine fin H3 kvs3 _ _ _ _ g1 ?_ g3;show WR K H3 (b5u _ b' (a2h (3 * (b'.testBit i').toNat) pp)) kvs3;rw [hc];exact g2
  | both=>
   obtain ⟨i',rfl⟩:=a2p hlen;obtain rfl:i' = j:=by rcases hj2 with ⟨_,z⟩ | z <;> simp at z; exact z
   have hwG':SqT K G w [.str (DK.word .both),.int (i':Nat)]:=hwG;fail "kw";rw [and_clr];refine ⟨p,clr b i',pp.1,pp.2,rfl,_,kvs',hpp2,h3',by omega,fun H3 kvs3 g1 g2 g3=>?_⟩;have hl1:=wput_len (a4m ⟨.both,[i']⟩ (ws.take i)) (clr b i') (((wat (a4m ⟨.both,[i']⟩ (ws.take i)) (clr b i')).getD (0,0)).1 + pp.1,((wat (a4m ⟨.both,[i']⟩ (ws.take i)) (clr b i')).getD (0,0)).2 + pp.2);have hl2:(b5u (a4m ⟨.both,[i']⟩ (ws.take i)) (clr b i') pp).length <= 250:=Nat.le_trans hl1 (by omega);fail "go";rw [bI1]
   cases hc:b.testBit i' with
   | true=>
    fail "go";refine ⟨p,b,0 - pp.1,0 - pp.2,rfl,_,kvs3,g1,g2,hl2,fun H4 kvs4 k1 k2 k3=>?_⟩;fail "go";refine fin H4 kvs4 _ _ _ _ k1 ?_ (g3.trans k3);show WR K H4 (b5u (b5u _ (clr b i') pp) (clr b i' + 2 ^ i') (a2h (2 * (b.testBit i').toNat) pp)) kvs4
    have eb:clr b i' + 2 ^ i' = b:=by
     rw [b0v];apply Nat.eq_of_testBit_eq;intro q;rw [Nat.testBit_or,Nat.testBit_two_pow]
     by_cases h:i' = q
     ·subst h; simp [hc]
     ·simp [h]
    rw [hc,eb];rw [Int.zero_sub,Int.zero_sub] at k2;exact k2
   | false=>
    fail "go";refine ⟨p,b ^^^ 2 ^ i',pp.1,pp.2,rfl,_,kvs3,g1,g2,hl2,fun H4 kvs4 k1 k2 k3=>?_⟩;fail "go";refine fin H4 kvs4 _ _ _ _ k1 ?_ (g3.trans k3);show WR K H4 (b5u (b5u _ (clr b i') pp) (clr b i' + 2 ^ i') (a2h (2 * (b.testBit i').toNat) pp)) kvs4
    have eb:clr b i' + 2 ^ i' = b ^^^ 2 ^ i':=by
     rw [b0v];apply Nat.eq_of_testBit_eq;intro q;rw [Nat.testBit_or,Nat.testBit_xor,Nat.testBit_two_pow]
     by_cases h:i' = q
     ·subst h; simp [hc]
     ·simp [h]
    rw [hc,eb];exact k2
  | wher=>
   obtain ⟨i',j',rfl⟩:=a4e hlen;obtain rfl:j' = j:=by rcases hj2 with ⟨_,z⟩ | z <;> simp at z; exact z.2
   have hwG':SqT K G w [.str (DK.word .wher),.int (i':Nat),.int (j':Nat)]:=hwG;fail "kw";refine ⟨w,b,⟨.wher,[i',j']⟩,n,rfl,hwt,ok,hn,(fun z=>by cases z),fun b' hb' hb2=>?_⟩;fail "go";refine ⟨p,b',pp.1,pp.2,rfl,_,kvs',hpp2,h3',by omega,fun H3 kvs3 g1 g2 g3=>?_⟩;fail "go";exact fin H3 kvs3 _ _ _ _ g1 (by rw [hb' pp (fun z=>by cases z) (fun z=>by cases z)]; exact g2) g3
  | swap=>
   obtain ⟨i',j',rfl⟩:=a4e hlen;obtain rfl:j' = j:=by rcases hj2 with ⟨_,z⟩ | z <;> simp at z; exact z.2
   have hwG':SqT K G w [.str (DK.word .swap),.int (i':Nat),.int (j':Nat)]:=hwG;fail "kw";refine ⟨w,b,⟨.swap,[i',j']⟩,n,rfl,hwt,ok,hn,(fun z=>by cases z),fun b' hb' hb2=>?_⟩;fail "go";refine ⟨p,b',pp.1,pp.2,rfl,_,kvs',hpp2,h3',by omega,fun H3 kvs3 g1 g2 g3=>?_⟩;fail "go";exact fin H3 kvs3 _ _ _ _ g1 (by rw [hb' pp (fun z=>by cases z) (fun z=>by cases z)]; exact g2) g3
 ·rintro o σ H' ⟨_,_,_,_,kvs1,rfl,h1,h2,h3,h4,h5⟩;rw [hWR.len,List.take_length] at h3
  have SS:a1u H (upd H' a (.dK kvs)):=fun c o' e=>by
   by_cases hc:c=a
   ·subst hc;rw [ha] at e;rw [a0c];exact e
   ·rw [a0m hc];exact h5 _ _ hc e
  have hf:(upd H' a (.dK kvs)) p=some (.dK kvs1):=by rw [a0m hpa]; exact h2
  have hWf:WR K (upd H' a (.dK kvs)) (a4m d ws) kvs1:=h3.stay (frz_tup h1);fail "go";exact q p _ SS hp ⟨kvs1,hf,hWf⟩
include a4f in theorem b4y (F:Fun K "_law_cell_at" "_law_cell_at" a5w f fd):a4p P w K mg base CX0 1 f fd ["_law_script","_law_k"] (a8k K):=by
 refine F.ok b3k (by fail "l3") (fun cdv A outer s H vs Q E hr h=>?_);obtain ⟨a,k,ns,rfl,ha,q⟩:=h
 refine ⟨_,(a0b (a3g (a0v (op_lt) (pv 1) (a1w (a3k) rfl a4f PySem.boot_len (a0a (pv 0) a0f)) (a1d _)) (a0g (a0x (a0w (a6t) (pv 0) (pv 1) (fun _ _=>rfl)))) a1e)
   (a0g (a0x a0d))),?_⟩
 fail "st";fail "go";refine iteD (fun c=>?_) (fun c=>?_)
 ·rw [List.length_map] at c;have ex:=at_gd (ns:=ns) (k:=k) (by omega);fail "go";exact q _ rfl
 ·rw [List.length_map] at c;fail "go";refine q 0 ?_;rw [List.getD_eq_getElem?_getD,List.getElem?_eq_none (by omega)];rfl
theorem ok__law_on (F:Fun K "_law_on" "_law_on" b5a f fd):a4p P w K mg base CX0 1 f fd ["_law_words","_law_row"] (b6d K):=by
 refine F.ok a1x (by fail "l5") (fun cdv A outer s H vs Q E hr h=>?_);obtain ⟨w,a,⟨k,ww⟩,n,r,rfl,hw,ok,hn,ha,q⟩:=h
 refine ⟨_,(a0b (ps_asg (pv 1) (b1z rfl (a1m (a1c (i:=2) a1x.nd rfl (Or.inl rfl)) (a1m (a1c (i:=3) a1x.nd rfl (Or.inl rfl)) (a1m (a1c (i:=4) a1x.nd rfl (Or.inl rfl)) a8e)))))
   (a0b (a0p (i:=5) a1x.nd rfl (Or.inl rfl) (a0w (a0r) (pv 0) (pe_un un_neg a0d) (fun _ _=>rfl)))
   (a0b (a0p (i:=6) a1x.nd rfl (Or.inl rfl) (a0j (a2g) (a0j (a7v) (pv 3) (pv 5)) a0d))
   (a0b (a0p (i:=7) a1x.nd rfl (Or.inl rfl) (a0j (a2g) (a0j (a7v) (pv 4) (pv 5)) a0d))
   (a0b (a3g (a0v (a6n) (a0w (a0r) (pv 0) a0d (fun _ _=>rfl)) a1j (a1d _)) (a0g (a0x (a2r (a0a (a0j (a1g) (pv 2) (pv 7)) (a0a (pv 3) (a0a (pv 4) a0f)))))) a1e)
   (a0b (a3g (a0v (a6n) (a0w (a0r) (pv 0) a0d (fun _ _=>rfl)) a1j (a1d _)) (a0g (a0x (a2r (a0a (a0j (a1g) (pv 2) (a0j (a2g) (pv 6) (pv 7))) (a0a (pv 3) (a0a (a0j (a1g) (pv 4) (a0j (a2d) (pv 6) (pv 5))) a0f)))))) a1e)
   (a0b (a3g (a0v (a6n) (a0w (a0r) (pv 0) a0d (fun _ _=>rfl)) a1j (a1d _)) (a0g (a0x (a2r (a0a (a0j (a1g) (pv 2) (a0j (a2g) (pv 6) (a0j (a6b) a0d (pv 7)))) (a0a (pv 3) (a0a (a0j (a1g) (pv 4) (a0j (a2d) (pv 6) (pv 5))) a0f)))))) a1e)
   (a0b (a3g (a0v (a6n) (a0w (a0r) (pv 0) a0d (fun _ _=>rfl)) a1j (a1d _)) (a0g (a0x (a2r (a0a (a0j (a1g) (pv 2) (a0j (a2g) (pv 6) (pv 7))) (a0a (a0j (a1g) (pv 3) (a0j (a2d) (a0j (a1g) (pv 6) (pv 7)) (pv 5))) (a0a (a0j (a1g) (pv 4) (a0j (a2d) (a0j (a1g) (pv 6) (pv 7)) (pv 5))) a0f)))))) a1e)
   (a0b (a0p (i:=8) a1x.nd rfl (Or.inl rfl) (a0w (a0r) (pv 0) a0d (fun _ _=>rfl)))
   (a0b (a0p (i:=9) a1x.nd rfl (Or.inl rfl) (a0j (a2g) (a0j (a7v) (pv 3) (pv 8)) a0d))
   (a0b (a0p (i:=10) a1x.nd rfl (Or.inl rfl) (a0j (a2g) (a0j (a7v) (pv 4) (pv 8)) a0d))
   (a0b (a3g (a0v (a6n) (a0w (a0r) (pv 0) a0d (fun _ _=>rfl)) a1j (a1d _)) (a0g (a0x (a2r (a0a (a0j (a1g) (pv 2) (a0j (a2g) (a0j (a2g) (pv 9) (pv 7)) (a0j (a1g) (a0j (a1g) a0d (pv 6)) (pv 10)))) (a0a (a0j (a1g) (pv 3) (a0j (a2d) (pv 9) (pv 5))) (a0a (a0j (a1g) (pv 4) (a0j (a2d) (pv 7) (pv 8))) a0f)))))) a1e)
   (a0b (a0p (i:=3) a1x.nd rfl (Or.inl rfl) (a0j (a1g) (a0j (a1g) (pv 3) (a0j (a2d) (a0j (a1g) (pv 6) (pv 9)) (pv 5))) (a0j (a2d) (a0j (a1g) (pv 6) (pv 9)) (pv 8))))
   (a0g (a0x (a2r (a0a (pv 2) (a0a (pv 3) (a0a (a0j (a1g) (a0j (a1g) (pv 4) (a0j (a2d) (a0j (a1g) (pv 7) (pv 10)) (pv 5))) (a0j (a2d) (a0j (a1g) (pv 7) (pv 10)) (pv 8))) a0f))))))))))))))))))),?_⟩
 fail "st";have hlen:=ok.len;have hlt:=ok.lt;have hnd:=ok.nd;unfold Wt at hw;dsimp only at hw hlen hlt hnd q;have ha':=SqT.of (K:=K) ha;unfold Row.V at ha';have q':∀ p H' (r':Row),a1u H H'->H' p=some (.tup r'.V)->r' = act ⟨k,ww⟩ r->Q (.ref p) H':=fun p H' r' s e e2=>q p H' s (by rw [<- e2]; exact e)
 cases k with
 | over=>
  obtain ⟨i,rfl⟩:=a2p hlen;have hi:i < n:=hlt i (by simp);have hw':SqT K H w [.str (DK.word .over),.int (i:Nat)]:=SqT.of hw;fail "kw";rename_i p hp;exact q' p _ ⟨_,_,_⟩ (a0e hp _) a0c rfl
 | quarter=>
  obtain ⟨i,rfl⟩:=a2p hlen;have hi:i < n:=hlt i (by simp);have hw':SqT K H w [.str (DK.word .quarter),.int (i:Nat)]:=SqT.of hw;fail "kw";rename_i p hp;exact q' p _ ⟨_,_,_⟩ (a0e hp _) a0c rfl
 | back=>
  obtain ⟨i,rfl⟩:=a2p hlen;have hi:i < n:=hlt i (by simp);have hw':SqT K H w [.str (DK.word .back),.int (i:Nat)]:=SqT.of hw;fail "kw";rename_i p hp;exact q' p _ ⟨_,_,_⟩ (a0e hp _) a0c rfl
 | both=>
  obtain ⟨i,rfl⟩:=a2p hlen;have hi:i < n:=hlt i (by simp);have hw':SqT K H w [.str (DK.word .both),.int (i:Nat)]:=SqT.of hw;fail "kw";rename_i p hp;exact q' p _ ⟨_,_,_⟩ (a0e hp _) a0c rfl
 | wher=>
  obtain ⟨i,j,rfl⟩:=a4e hlen;have hi:i < n:=hlt i (by simp);have hj:j < n:=hlt j (by simp);have hw':SqT K H w [.str (DK.word .wher),.int (i:Nat),.int (j:Nat)]:=SqT.of hw;fail "kw";rename_i p hp;rw [wh_bit];exact q' p _ ⟨_,_,_⟩ (a0e hp _) a0c rfl
 | swap=>
  obtain ⟨i,j,rfl⟩:=a4e hlen;have hi:i < n:=hlt i (by simp);have hj:j < n:=hlt j (by simp);have hw':SqT K H w [.str (DK.word .swap),.int (i:Nat),.int (j:Nat)]:=SqT.of hw;fail "kw";rename_i p hp;rw [ex_turn,ex_turn];exact q' p _ ⟨_,_,_⟩ (a0e hp _) a0c rfl
include b0s in theorem b5c (F:Fun K "_law_behind" "_law_behind" a7d f fd):a4p P w K mg base CX0 2 f fd ["_law_work","_law_row"] (a8v K):=by
 refine F.ok a5r (by fail "l6") (fun cdv A outer s H vs Q E hr h=>?_);obtain ⟨l,b,n,as,ds,r,rfl,hl,has,hok,hn,hb,q⟩:=h
 refine ⟨_,(a0b (a6f PassesOwn.never rfl (a3s (pv 0)) (a1c (i:=2) a5r.nd rfl (Or.inl rfl)) (a0g (a0p (i:=1) a5r.nd rfl (Or.inl rfl) (a2f b0s hr a1z (a0a (pv 2) (a0a (pv 1) a0f))))))
   (a0g (a0x (pv 1)))),?_⟩
 fail "st";fail "go";refine a9m (fun P h=>⟨_,rfl,h⟩) hl (fun i σ H'=>∃ (c:Addr) (u:Option V),σ=[some (.ref l),some (.ref c),u]/\a1u H H'/\H' c=some (.tup (b0w (ds.take i) r).V)) ⟨b,none,rfl,a1u.refl _,hb⟩ ?_ ?_ ?_
 ·rintro i σ H' _ ⟨c,u,_,hS,_⟩;exact hS.seq hl
 ·rintro i x σ H' hx ⟨c,u,rfl,hS,hc⟩;obtain ⟨a,ha,rfl⟩:=a2q hx;obtain ⟨d,hd,hda⟩:=has.get ha;fail "go";refine ⟨a,c,d,n,b0w (ds.take i) r,rfl,hS _ _ hda,hok d (List.mem_of_getElem? hd),hn,hc,fun p H2 hS2 hp2=>?_⟩;fail "go";refine ⟨p,_,rfl,hS.trans hS2,?_⟩;rw [acts_take r hd];exact hp2
 ·rintro σ H' ⟨c,u,rfl,hS,hc⟩;fail "go";rw [a0n,has.len,List.take_length] at hc;exact q c H' hS hc
theorem ok__law_by (F:Fun K "_law_by" "_law_by" b3r f fd):a4p P w K mg base CX0 1 f fd ["_law_one","_law_other"] (b5z K):=by
 refine F.ok sc__law_by (by fail "l4") (fun cdv A outer s H vs Q E hr h=>?_);obtain ⟨a,b,p,q',rfl,ha,hb,hp,hq,q⟩:=h;refine ⟨_,(a0g (a0x (a2r (a0a (a0j (a6b) (a0j (b7f) (a0w (a0r) (pv 0) a0d (fun _ _=>rfl)) (a0w (a0r) (pv 1) a0d (fun _ _=>rfl))) (a0j (b7f) (a0w (a0r) (pv 0) a0d (fun _ _=>rfl)) (a0w (a0r) (pv 1) a0d (fun _ _=>rfl)))) (a0a (a0j (a4a) (a0j (b7f) (a0w (a0r) (pv 0) a0d (fun _ _=>rfl)) (a0w (a0r) (pv 1) a0d (fun _ _=>rfl))) (a0j (b7f) (a0w (a0r) (pv 0) a0d (fun _ _=>rfl)) (a0w (a0r) (pv 1) a0d (fun _ _=>rfl)))) a0f))))),?_⟩;fail "st";have ha':SqT K H a [.int p.1,.int p.2]:=ha;have hb':SqT K H b [.int q'.1,.int q'.2]:=hb;have c1:CMulV p.1 q'.1:=⟨hp.1,hq.1⟩;have c2:CMulV p.2 q'.2:=⟨hp.2,hq.2⟩;have c3:CMulV p.1 q'.2:=⟨hp.1,hq.2⟩;have c4:CMulV p.2 q'.1:=⟨hp.2,hq.1⟩;fail "go";rename_i t ht;exact q t _ (a0e ht _) (SqT.of a0c)
include b_zip a8c in theorem b3t (F:Fun K "_law_cleared" "_law_cleared" a5z f fd):a4p P w K mg base CX0 2 f fd ["_law_line","_law_lead","_law_at"] (a7t K):=by
 refine F.ok a1y (by fail "l5") (fun cdv A outer s H vs Q E hr h=>?_);obtain ⟨a,b,k,xs,ys,rfl,⟨ts,ha,hx⟩,⟨us,hb,hy⟩,hl,hk,hz,bx,b_y,q⟩:=h
 refine ⟨_,(a0b (a0p (i:=3) a1y.nd rfl (Or.inl rfl) (b3p a0f))
   (a0b (a6f PassesOwn.never rfl (pi_zip rfl b_zip (a0a (pv 0) (a0a (pv 1) a0f))) (b1z rfl (a1m (a1c (i:=4) a1y.nd rfl (Or.inl rfl)) (a1m (a1c (i:=5) a1y.nd rfl (Or.inl rfl)) a8e))) (a0b (a0p (i:=6) a1y.nd rfl (Or.inl rfl) (a2f a8c hr a1z (a0a (pv 4) (a0a (a0w (a6t) (pv 1) (pv 2) (fun _ _=>rfl)) a0f))))
   (a0b (a0p (i:=7) a1y.nd rfl (Or.inl rfl) (a2f a8c hr a1z (a0a (pv 5) (a0a (a0w (a6t) (pv 0) (pv 2) (fun _ _=>rfl)) a0f))))
   (a0g (a2y (pe_bm PySem.F.plainAttrs_list PySem.F.slot_list_append PySem.F.type_list_append a6k (pv 3) (a0a (a2r (a0a (a0j (a6b) (a0w (a0r) (pv 6) a0d (fun _ _=>rfl)) (a0w (a0r) (pv 7) a0d (fun _ _=>rfl))) (a0a (a0j (a6b) (a0w (a0r) (pv 6) a0d (fun _ _=>rfl)) (a0w (a0r) (pv 7) a0d (fun _ _=>rfl))) a0f))) a0f)))))))
   (a0g (a0x (pv 3))))),?_⟩
 fail "st";fail "go";rename_i p hp;have lt:=hx.len;have lu:=hy.len;obtain ⟨tk,htk⟩:∃ t,ts[k]? = some t:=⟨_,List.getElem?_eq_getElem (by omega)⟩;obtain ⟨uk,huk⟩:∃ t,us[k]? = some t:=⟨_,List.getElem?_eq_getElem (by omega)⟩;obtain ⟨xk,hxk,ptk⟩:=hx.get htk;obtain ⟨yk,hyk,puk⟩:=hy.get huk;have at_t:=a8n htk;have at_u:=a8n huk;have ga:=getD_of hxk;have gb:=getD_of hyk;refine st_for_zip ?_ ((a0e hp _).seq (SqL.of ha)) ((a0e hp _).seq (SqL.of hb)) (by rw [a0n,a0n]; omega) (fun i σ H'=>∃ (u4 u5 u6 u7:Option V) (cs:List Addr),σ=[some (.ref a),some (.ref b),some (.int (k:Int)),some (.ref p),u4,u5,u6,u7]/\a1u H H'/\H' p=some (.lst (a1q cs))/\a5d (b1d K H') cs ((clrd xs ys k).take i)) ⟨none,none,none,none,[],rfl,a0e hp _,a0c,.nil⟩ ?_ ?_ ?_
 ·intro P h;fail "go";exact h
 ·rintro i σ H' _ ⟨_,_,_,_,_,_,s,_⟩;exact ⟨s.seq (SqL.of ha),s.seq (SqL.of hb)⟩
 ·rintro i vx vy σ H' p2 hvx hvy ⟨u4,u5,u6,u7,cs,rfl,s,fp,hc⟩ hp2;obtain ⟨t,ht,rfl⟩:=a2q hvx;obtain ⟨u,hu,rfl⟩:=a2q hvy;obtain ⟨x,hxi,ptx⟩:=hx.get ht;obtain ⟨y,hyi,puy⟩:=hy.get hu;have hil:i < xs.length:=(List.getElem?_eq_some_iff.1 hxi).1;have n2:=a0e hp2 (.tup [.ref t,.ref u]);have S:=s.trans n2;have t3:SqT K (upd H' p2 (.tup [.ref t,.ref u])) p2 [.ref t,.ref u]:=SqT.of a0c;have fG:=n2 _ _ fp;have cG:=hc.mono fun a d (x:b1d K H' a d)=>b1d.same n2 x;generalize upd H' p2 (.tup [.ref t,.ref u]) = G at S t3 fG cG ⊢;have lG:=S.seq (K:=K) (SqL.of ha);have mG:=S.seq (K:=K) (SqL.of hb);fail "go";refine ⟨t,uk,x,yk,rfl,b1d.same S ptx,b1d.same S puk,lb300 (bx x (List.mem_of_getElem? hxi)),lb300 (b_y yk (List.mem_of_getElem? hyk)),fun t1 H1 s1 h1=>?_⟩;have lG1:=s1.seq lG;fail "go";refine ⟨u,tk,y,xk,rfl,b1d.same (S.trans s1) puy,b1d.same (S.trans s1) ptk,lb300 (b_y y (List.mem_of_getElem? hyi)),lb300 (bx xk (List.mem_of_getElem? hxk)),fun t2 H2 s2 h2=>?_⟩;have h1':SqT K H2 t1 [.int (gm x yk).1,.int (gm x yk).2]:=s2.tup h1;have h2':SqT K H2 t2 [.int (gm y xk).1,.int (gm y xk).2]:=h2;have f2:=s2 _ _ (s1 _ _ fG)
  have hle:(a1q cs).length <= 900:=by
   rw [a0n,cG.len,List.length_take];have:(clrd xs ys k).length=xs.length:=by unfold clrd; rw [List.length_zipWith]; omega
   omega
  have fl:SqL K H2 p (a1q cs):=SqL.of f2;fail "go";rename_i t9 ht9;have n9:=a0e ht9 (.tup [.int ((gm x yk).1 - (gm y xk).1),.int ((gm x yk).2 - (gm y xk).2)]);have f9:=n9 _ _ f2;have p9:b1d K (upd H2 t9 (.tup [.int ((gm x yk).1 - (gm y xk).1),.int ((gm x yk).2 - (gm y xk).2)])) t9 (psub (gm x yk) (gm y xk)):=SqT.of a0c;have S9:=((S.trans s1).trans s2).trans n9;have c9:=cG.mono fun a d (z:b1d K G a d)=>b1d.same ((s1.trans s2).trans n9) z;generalize upd H2 t9 (.tup [.int ((gm x yk).1 - (gm y xk).1),.int ((gm x yk).2 - (gm y xk).2)]) = G9 at f9 p9 S9 c9 ⊢;have hB:But p G9 (upd G9 p (.lst (a1q cs ++ [.ref t9]))):=But.upd;refine ⟨_,_,_,_,cs ++ [t9],rfl,But.same S9 hB hp,by rw [a0c,a3h],?_⟩;rw [List.take_succ,clrd_at hxi hyi,ga,gb];exact (c9.mono fun a d (z:b1d K G9 a d)=>hB.sq f9 z).snoc (hB.sq f9 p9)
 ·rintro σ H' ⟨u4,u5,u6,u7,cs,rfl,s,fp,hc⟩;fail "go";rw [a0n,List.take_of_length_le (by unfold clrd; rw [List.length_zipWith]; omega)] at hc;exact q p H' s ⟨cs,fp,hc⟩
include a4f a2z a3w in theorem b7p (F:Fun K "_law_apart" "_law_apart" a3a f fd):a4p P w K mg base CX0 3 f fd ["_law_table"] (a9w K):=by
 refine F.ok a1a (by fail "l4") (fun cdv A outer s H vs Q E hr h=>?_);obtain ⟨l,as,ls,C,rfl,hl,hW,hC,hb,h0,hz,hC1,h4,q⟩:=h
 refine ⟨_,(a0b (a0p (i:=1) a1a.nd rfl (Or.inl rfl) a0d)
   (a0b (a0p (i:=2) a1a.nd rfl (Or.inl rfl) (pv 0))
   (a0b (a6f PassesOwn.never rfl (a3z rfl a2z (a0a (a1w (a3k) rfl a4f PySem.boot_len (a0a (a0w (a6t) (pv 0) a0d (fun _ _=>rfl)) a0f)) a0f)) (a1c (i:=3) a1a.nd rfl (Or.inr rfl)) (a0b (b7q (i:=4) rfl (Or.inl rfl) (sc:=a0k a3a) rfl ⟨rfl,by decide +kernel,rfl,by decide +kernel,by decide +kernel,by decide +kernel,by decide +kernel⟩ (by show ("_law_line":Str) ∉ (["_law_table","_law_many","_law_rest","_law_at","_law_here","_law_lead"]:List Str); decide +kernel) (by show (".0":Str) ∉ (["_law_table","_law_many","_law_rest","_law_at","_law_here","_law_lead"]:List Str); decide +kernel) a1a.nd rfl (a3s (pv 2)) (fun _ _ _ _=>(b6u (a0v (op_neDK (K:=K) rfl (hu_of64 hr)) (a0w (ix_listK (K:=K) rfl) (pv 0) (pv 4) (fun _ _=>rfl)) (a2r (a0a a0d (a0a a0d a0f))) (a1d _)))) (fun _ _ _ _=>(pv 0)))
   (a0g (a3g (a0v (op_neD (hu_of64 hr)) (pv 4) (b3p a0f) (a1d _)) (a0b (a0p (i:=1) a1a.nd rfl (Or.inl rfl) (a0j (a4a) (pv 1) a0d))
   (a0b (a0p (i:=5) a1a.nd rfl (Or.inr rfl) (a0w (a6t) (pv 4) a0d (fun _ _=>rfl)))
   (a0g (a0p (i:=2) a1a.nd rfl (Or.inl rfl) (a0j (op_cat) (a6x (sc:=a0k a3a) rfl ⟨rfl,by decide +kernel,rfl,by decide +kernel,by decide +kernel,by decide +kernel,by decide +kernel⟩ (by show ("_law_line":Str) ∉ (["_law_table","_law_many","_law_rest","_law_at","_law_here","_law_lead"]:List Str); decide +kernel) (by show (".0":Str) ∉ (["_law_table","_law_many","_law_rest","_law_at","_law_here","_law_lead"]:List Str); decide +kernel) a1a.nd rfl (a3s (b0c (b3e) (pv 4) (b1r a0d) b7t)) (fun _ _ _ _=>a5s) (fun _ _ _ _=>(a2f a3w hr a1z (a0a (pv 0) (a0a (pv 6) (a0a (pv 4) a0f)))))) (a6x (sc:=a0k a3a) rfl ⟨rfl,by decide +kernel,rfl,by decide +kernel,by decide +kernel,by decide +kernel,by decide +kernel⟩ (by show ("_law_line":Str) ∉ (["_law_table","_law_many","_law_rest","_law_at","_law_here","_law_lead"]:List Str); decide +kernel) (by show (".0":Str) ∉ (["_law_table","_law_many","_law_rest","_law_at","_law_here","_law_lead"]:List Str); decide +kernel) a1a.nd rfl (a3s (pv 2)) (fun _ _ _ _=>(b6u (a0v (op_eqDK (K:=K) rfl (hu_of64 hr)) (a0w (ix_listK (K:=K) rfl) (pv 0) (pv 4) (fun _ _=>rfl)) (a2r (a0a a0d (a0a a0d a0f))) (a1d _)))) (fun _ _ _ _=>(pv 0)))))))) a1e))))
   (a0g (a0x (pv 1)))))),?_⟩
 fail "st";have las:=hW.len;obtain ⟨a0,ha0⟩:∃ a,as[0]? = some a:=⟨_,List.getElem?_eq_getElem (by omega)⟩;obtain ⟨l0,hl0,⟨ts0,f0,w0⟩⟩:=hW.get ha0;have c0:=hC l0 (List.mem_of_getElem? hl0);have at0':atI (a1q as) 0=some (.ref a0):=a8n (k:=0) ha0;have sl:SqL K H l (a1q as):=SqL.of hl;have s0:SqL K H a0 (a1q ts0):=SqL.of f0;fail "go";refine a4g (n:=C) (by omega) (fun P h=>?_) (fun i σ H'=>∃ (u3 u4 u5:Option V) (many:Nat) (r:Addr) (bs:List Addr) (a2e:List (List (Int × Int))),σ=[some (.ref l),some (.int (many:Int)),some (.ref r),u3,u4,u5]/\a1u H H'/\H' r=some (.lst (a1q bs))/\a5d (a3p K H') bs a2e/\Elim ls C i many a2e) ⟨none,none,none,0,l,as,ls,rfl,a1u.refl _,hl,hW,Elim.start hC hb⟩ ?_ ?_
 ·fail "go";rw [a0n,w0.len,c0];exact h
 ·rintro i σ H' hi ⟨u3,u4,u5,many,r,bs,a2e,rfl,s,fr,hr,el⟩;have lbs:=hr.len;have room:=el.room;have up:=el.up;clear hl hW hb h0 las ha0 hl0 f0 w0 c0 at0' sl s0 q;fail "go";refine a3v (fun P h=>⟨_,rfl,h⟩) (SqL.of fr) (fun j ys H2=>a1u H' H2/\∃ cs,ys=a1q cs/\a5d (a3p K H') cs ((a2e.take j).filter (b3d i))) (by rw [a0n,lbs]; omega) ⟨a1u.refl _,[],rfl,.nil⟩ ?_ ?_ ?_ ?_
  ·rintro j ys H2 ⟨_,cs,rfl,e⟩;rw [a0n,e.len];exact filt_len j
  ·rintro j ys H2 ⟨s2,_⟩;exact SqL.of (s2 _ _ fr)
  ·rintro j x ys H2 hx ⟨s2,cs,rfl,e⟩;obtain ⟨b,hb',rfl⟩:=a2q hx;obtain ⟨ln,hln,⟨ts,ft,wt⟩⟩:=hr.get hb';have lnl:=el.len ln (List.mem_of_getElem? hln);have tsl:=wt.len;obtain ⟨t,hti⟩:∃ t,ts[i]? = some t:=⟨_,List.getElem?_eq_getElem (by omega)⟩;obtain ⟨pp,hpi,hpt⟩:=wt.get hti;have at_i:=a8n hti;have sb:SqL K H2 b (a1q ts):=SqL.of (s2 _ _ ft);have pt:SqT K H2 t [.int pp.1,.int pp.2]:=s2.tup hpt;rw [filt_snoc hln];have nd:=nz_dec hpi;fail "go";rename_i p0 hp0;have n0:=a0e hp0 (.tup [.int 0,.int 0])
   cases c:decide ([pp.1,pp.2] = [(0:Int),0]) with
   | true=>
    rw [c] at nd;fail "go";refine ⟨s2.trans n0,cs,rfl,?_⟩;rw [nd,if_neg (by decide),List.append_nil];exact e
   | false=>
    rw [c] at nd;fail "go";refine ⟨s2.trans n0,cs ++ [b],a3h _ _,?_⟩;rw [nd,if_pos (by decide)];exact e.snoc ⟨ts,ft,wt⟩
  rintro ys H2 ⟨s2,cs,rfl,e⟩ ph hph;rw [a0n,lbs,List.take_length] at e;have n3:=s2.trans (a0e hph (.lst (a1q cs)));have f3:(upd H2 ph (.lst (a1q cs))) ph=some (.lst (a1q cs)):=a0c;generalize upd H2 ph (.lst (a1q cs)) = H3 at n3 f3 ⊢;have S3:=s.trans n3;have fr3:=n3 _ _ fr;have hr3:=hr.mono fun a d (x:a3p K H' a d)=>a3p.same n3 x;have e3:=e.mono fun a d (x:a3p K H' a d)=>a3p.same n3 x;clear e s2 fr hr hph n3;fail "go";rename_i p0 hp0;have n0:=a0e hp0 (.lst []);refine st_neTab (SqL.of (n0 _ _ f3)) (e3.mono fun a d (x:a3p K H3 a d)=>a3p.same n0 x) (SqL.of a0c) ?_;have S4:=S3.trans n0;have fr4:=n0 _ _ fr3;have f4:=n0 _ _ f3;have hr4:=hr3.mono fun a d (x:a3p K H3 a d)=>a3p.same n0 x;have e4:=e3.mono fun a d (x:a3p K H3 a d)=>a3p.same n0 x;generalize upd H3 p0 (.lst []) = H4 at S4 fr4 f4 hr4 e4 ⊢;clear hr3 e3 fr3 f3 S3 n0
  cases hF:a2e.filter (b3d i) with
  | nil=>
   fail "go";exact ⟨_,_,_,many,r,bs,a2e,rfl,S4,fr4,hr4,el.none hF⟩
  | cons ld hs=>
   rw [hF] at e4;have el':=el.lead hF
   have m3:many <= 3:=by
    have:0 < a2e.length:=by
     cases a2e with
     | nil=>cases hF
     | cons _ _=>simp
    omega
   have b206:∀ x ∈ ld :: hs,Lb 206 x/\x.length=C:=fun x hx=>by
    rw [<- hF] at hx;have hx':=(List.mem_filter.1 hx).1;refine ⟨fun p hp=>?_,el.len x hx'⟩;have h1:=el.bnd x hx' p hp;have h2:2 ^ bt many <= 2 ^ 206:=Nat.pow_le_pow_right (by decide) (bt_le m3);omega
   obtain ⟨c1,cs1,rfl⟩:∃ c1 cs1,cs=c1 :: cs1:=by
    cases cs with
    | nil=>cases e4
    | cons c1 cs1=>exact ⟨c1,cs1,rfl⟩
   obtain ⟨e5,e6⟩:a3p K H4 c1 ld/\a5d (a3p K H4) cs1 hs:=by
    cases e4 with
    | cons x y=>exact ⟨x,y⟩
   have sh4:SqL K H4 ph (a1q (c1 :: cs1)):=SqL.of f4;have at_1:atI (a1q (c1 :: cs1)) 0=some (.ref c1):=a8n (k:=0) rfl;rw [show (!(ld :: hs).isEmpty) = true from rfl];fail "go";refine st_cpE ?_;fail "go";rename_i p5 hp5
   have ec:cutV (a1q (c1 :: cs1)) (some 1) none=a1q cs1:=by
    rw [show (1:Int) = ((1:Nat):Int) from rfl,cut_dropV];rfl
   rw [ec];have n5:=a0e hp5 (.lst (a1q cs1));have f5:(upd H4 p5 (.lst (a1q cs1))) p5=some (.lst (a1q cs1)):=a0c;have S5:=S4.trans n5;have fr5:=n5 _ _ fr4;have hr5:=hr4.mono fun a d (x:a3p K H4 a d)=>a3p.same n5 x;have ld5:=a3p.same n5 e5;have hs5:=e6.mono fun a d (x:a3p K H4 a d)=>a3p.same n5 x;generalize upd H4 p5 (.lst (a1q cs1)) = H5 at f5 S5 fr5 hr5 ld5 hs5 ⊢;clear fr4 f4 hr4 e4 e5 e6 sh4 S4 n5;have lhs:=hs5.len
   have lF:hs.length + 1 <= a2e.length:=by
    have:=List.length_filter_le (b3d i) a2e;rw [hF] at this;exact this
   refine st_cpAt (SqL.of f5) (fun j ys H6=>a1u H5 H6/\∃ ds,ys=a1q ds/\a5d (a3p K H6) ds ((hs.take j).map fun l=>clrd l ld i)) (by rw [a0n]; omega) ⟨a1u.refl _,[],rfl,.nil⟩ ?_ ?_ ?_ ?_
   ·rintro j ys H6 ⟨_,ds,rfl,e⟩;rw [a0n,e.len,List.length_map,List.length_take];omega
   ·rintro j ys H6 ⟨s6,_⟩;exact SqL.of (s6 _ _ f5)
   ·rintro j x ys H6 hx ⟨s6,ds,rfl,e⟩;obtain ⟨b,hb',rfl⟩:=a2q hx;obtain ⟨ln,hln,lna⟩:=hs5.get hb';obtain ⟨bb,bl⟩:=b206 ln (List.mem_cons_of_mem _ (List.mem_of_getElem? hln));obtain ⟨bb0,bl0⟩:=b206 ld List.mem_cons_self;fail "go";refine ⟨b,c1,i,ln,ld,rfl,a3p.same s6 lna,a3p.same s6 ld5,by rw [bl,bl0],by omega,by omega,bb,bb0,fun p7 H7 s7 h7=>?_⟩;refine ⟨s6.trans s7,ds ++ [p7],a3h _ _,?_⟩;rw [a0q hln,List.map_append];exact (e.mono fun a d (x:a3p K H6 a d)=>a3p.same s7 x).snoc h7
   ·rintro ys H6 ⟨s6,ds,rfl,e⟩ p7 hp7;rw [a0n,lhs,List.take_length] at e;have n7:=a0e hp7 (.lst (a1q ds));have f7:(upd H6 p7 (.lst (a1q ds))) p7=some (.lst (a1q ds)):=a0c;have S7:=s6.trans n7;have e7:=e.mono fun a d (x:a3p K H6 a d)=>a3p.same n7 x;generalize upd H6 p7 (.lst (a1q ds)) = H7 at f7 S7 e7 ⊢;have fr7:=S7 _ _ fr5;have hr7:=hr5.mono fun a d (x:a3p K H5 a d)=>a3p.same S7 x;have S8:=S5.trans S7;clear fr5 hr5 ld5 hs5 f5 e n7 s6 S7 S5;fail "go";refine a3v (fun P h=>⟨_,rfl,h⟩) (SqL.of fr7) (fun j ys H2=>a1u H7 H2/\∃ cs,ys=a1q cs/\a5d (a3p K H7) cs ((a2e.take j).filter (fun l=>!b3d i l))) (by rw [a0n,lbs]; omega) ⟨a1u.refl _,[],rfl,.nil⟩ ?_ ?_ ?_ ?_
    ·rintro j ys H2 ⟨_,cs,rfl,e⟩;rw [a0n,e.len];exact filt_len j
    ·rintro j ys H2 ⟨s2,_⟩;exact SqL.of (s2 _ _ fr7)
    ·rintro j x ys H2 hx ⟨s2,cs,rfl,e⟩;obtain ⟨b,hb',rfl⟩:=a2q hx;obtain ⟨ln,hln,⟨ts,ft,wt⟩⟩:=hr7.get hb';have lnl:=el.len ln (List.mem_of_getElem? hln);have tsl:=wt.len;obtain ⟨t,hti⟩:∃ t,ts[i]? = some t:=⟨_,List.getElem?_eq_getElem (by omega)⟩;obtain ⟨pp,hpi,hpt⟩:=wt.get hti;have at_i:=a8n hti;have sb:SqL K H2 b (a1q ts):=SqL.of (s2 _ _ ft);have pt:SqT K H2 t [.int pp.1,.int pp.2]:=s2.tup hpt;rw [filt_snoc hln];have nd:=nz_dec hpi;fail "go";rename_i p0 hp0;have n0:=a0e hp0 (.tup [.int 0,.int 0])
     cases c:decide ([pp.1,pp.2] = [(0:Int),0]) with
     | false=>
      rw [c] at nd;fail "go";refine ⟨s2.trans n0,cs,rfl,?_⟩;rw [nd,if_neg (by decide),List.append_nil];exact e
     | true=>
      rw [c] at nd;fail "go";refine ⟨s2.trans n0,cs ++ [b],a3h _ _,?_⟩;rw [nd,if_pos (by decide)];exact e.snoc ⟨ts,ft,wt⟩
    rintro ys H8 ⟨s8,cs8,rfl,e8⟩ p9 hp9;rw [a0n,lbs,List.take_length] at e8;have n9:=s8.trans (a0e hp9 (.lst (a1q cs8)));have f9:(upd H8 p9 (.lst (a1q cs8))) p9=some (.lst (a1q cs8)):=a0c;generalize upd H8 p9 (.lst (a1q cs8)) = H9 at n9 f9 ⊢;have f79:=n9 _ _ f7
    have hz9:(a1q ds).length + (a1q cs8).length <= 1000:=by
     rw [a0n,a0n,e7.len,e8.len,List.length_map];have:=List.length_filter_le (fun l=>!b3d i l) a2e;omega
    fail "go";rename_i p10 hp10;have n10:=a0e hp10 (.lst (a1q ds ++ a1q cs8));refine ⟨_,_,_,many + 1,p10,ds ++ cs8,_,rfl,(S8.trans n9).trans n10,by rw [a0c]; unfold a1q; rw [List.map_append],?_,el'⟩;exact (e7.mono fun a d (x:a3p K H7 a d)=>a3p.same (n9.trans n10) x).app (e8.mono fun a d (x:a3p K H7 a d)=>a3p.same (n9.trans n10) x)
 ·rintro σ H' ⟨u3,u4,u5,many,r,bs,a2e,rfl,s,fr,hr,el⟩;fail "go";exact q many a2e H' s el
include a1r in theorem b5m (F:Fun K "_law_spread" "_law_spread" a7f f fd):a4p P w K mg base CX0 1 f fd ["_law_number","_law_wires"] (a9f K):=by
 refine F.ok a2v (by fail "l3") (fun cdv A outer s H vs Q E hr h=>?_);obtain ⟨i,l,L,rfl,hl,hz,hL,q⟩:=h
 refine ⟨_,(a0b (a0p (i:=2) a2v.nd rfl (Or.inl rfl) a0d)
   (a0b (a6f PassesOwn.never rfl (b8d rfl a1r (a0a (pv 1) a0f)) (b1z rfl (a1m (a1c (i:=3) a2v.nd rfl (Or.inl rfl)) (a1m (a1c (i:=4) a2v.nd rfl (Or.inl rfl)) a8e))) (a0g (a0p (i:=2) a2v.nd rfl (Or.inl rfl) (a0j (a4a) (pv 2) (a0j (op_mul) (a0j (a2g) (a0j (a7v) (pv 0) (pv 3)) a0d) (a0j (a2d) a0d (pv 4)))))))
   (a0g (a0x (pv 2))))),?_⟩
 fail "st";fail "go";refine st_enE ?_;fail "go";refine st_enAt hl (fun j σ H'=>∃ (u v:Option V),σ=[some (.int (i:Int)),some (.ref l),some (.int ((spr (L.take j) i:Nat):Int)),u,v]/\a1u H H') ⟨none,none,rfl,a1u.refl _⟩ ?_ ?_ ?_
 ·rintro j σ H' _ ⟨_,_,_,s⟩;exact s.seq hl
 ·rintro j x σ H' p hx ⟨u,v,rfl,s⟩ hp;obtain ⟨k,rfl,hk⟩:=vn_at hx;have hk40:=hL k (List.mem_of_getElem? hk);have hjl:=(List.getElem?_eq_some_iff.1 hk).1;have S:=s.trans (a0e hp (.tup [.int (j:Int),.int (k:Int)]));have t3:SqT K (upd H' p (.tup [.int (j:Int),.int (k:Int)])) p [.int (j:Int),.int (k:Int)]:=SqT.of a0c;generalize upd H' p (.tup [.int (j:Int),.int (k:Int)]) = G at S t3 ⊢;fail "go"
  have b1:∀ c:Bool,CMul (bI c) ((2 ^ k:Nat):Int):=fun c=>by
   cases c <;> exact .inl ⟨by decide,by decide⟩
  refine st_i (b1 _) ?_;fail "go"
  have ev:((spr (L.take j) i:Nat):Int) + bI (i.testBit j) * ((2 ^ k:Nat):Int) = ((spr (L.take (j + 1)) i:Nat):Int):=by
   rw [a0q hk,spr_snoc,List.length_take,Nat.min_eq_left (by omega),b3h];push_cast;rfl
  rw [ev];exact ⟨_,_,rfl,S⟩
 ·rintro σ H' ⟨u,v,rfl,s⟩;fail "go";rw [a6a,List.take_length];exact q H' s
include a4f a0t b_int a2z a2c b2p a7g a6u a2u a4v a5k a3e in theorem ok_law (F:Fun K "law" "law" b1j f fd):a4p P w K mg base CX0 8 f fd ["_law_script"] (sp_law K):=by
 refine F.ok a4n (by fail "l2") (fun cdv A outer s H vs Q E hr h=>?_);obtain ⟨a,ns,rfl,ha,hns,q⟩:=h
 refine ⟨_,(a0b (a0p (i:=1) a4n.nd rfl (Or.inr rfl) (a0j (a4a) a0d (a0j (a8x) (a2f a2u hr a1z (a0a (pv 0) (a0a a0d a0f))) a0d)))
   (a0b (a0p (i:=2) a4n.nd rfl (Or.inr rfl) (a6x (sc:=a0k b1j) rfl ⟨rfl,by decide +kernel,rfl,by decide +kernel,by decide +kernel,by decide +kernel,by decide +kernel⟩ (by show ("_law_cell":Str) ∉ (["_law_script","_law_n","_law_work","_law_numbers","_law_words","_law_x","_law_wires","_law_others","_law_table","_law_one","_law_line","_law_other","_law_found"]:List Str); decide +kernel) (by show (".0":Str) ∉ (["_law_script","_law_n","_law_work","_law_numbers","_law_words","_law_x","_law_wires","_law_others","_law_table","_law_one","_law_line","_law_other","_law_found"]:List Str); decide +kernel) a4n.nd rfl (a3s (b0c (b3e) (pv 0) (b1r a0d) (b1r a0d))) (fun _ _ _ _=>a5s) (fun _ _ _ _=>(a2f a7g hr a1z (a0a (pv 0) (a0a (pv 2) a0f))))))
   (a0b (a0p (i:=3) a4n.nd rfl (Or.inl rfl) (pe_disp1 a0d (a2r (a0a a0d (a0a a0d a0f)))))
   (a0b (a6f PassesOwn.never rfl (a3s (pv 2)) (a1c (i:=4) a4n.nd rfl (Or.inl rfl)) (a0g (a0p (i:=3) a4n.nd rfl (Or.inl rfl) (a2f a6u hr a1z (a0a (pv 4) (a0a (pv 3) a0f))))))
   (a0b (a0p (i:=5) a4n.nd rfl (Or.inr rfl) (a0j (b0f) (a0w (a6t) (a2f a2c hr a1z (a0a (a2f a2u hr a1z (a0a (pv 0) (a0a a0d a0f))) (a0a a0d a0f))) a0d (fun _ _=>rfl)) a0d))
   (a0b (b7q (i:=6) rfl (Or.inl rfl) (sc:=a0k b1j) rfl ⟨rfl,by decide +kernel,rfl,by decide +kernel,by decide +kernel,by decide +kernel,by decide +kernel⟩ (by show ("_law_k":Str) ∉ (["_law_script","_law_n","_law_work","_law_numbers","_law_words","_law_x","_law_wires","_law_others","_law_table","_law_one","_law_line","_law_other","_law_found"]:List Str); decide +kernel) (by show (".0":Str) ∉ (["_law_script","_law_n","_law_work","_law_numbers","_law_words","_law_x","_law_wires","_law_others","_law_table","_law_one","_law_line","_law_other","_law_found"]:List Str); decide +kernel) a4n.nd rfl (a3z rfl a2z (a0a (pv 1) a0f)) (fun _ _ _ _=>(b6u (a0v (a6n) (a0j (a2g) (a0j (a7v) (pv 6) (pv 0)) a0d) a0d (a1d _)))) (fun _ _ _ _=>(pv 0)))
   (a0b (b7q (i:=7) rfl (Or.inl rfl) (sc:=a0k b1j) rfl ⟨rfl,by decide +kernel,rfl,by decide +kernel,by decide +kernel,by decide +kernel,by decide +kernel⟩ (by show ("_law_k":Str) ∉ (["_law_script","_law_n","_law_work","_law_numbers","_law_words","_law_x","_law_wires","_law_others","_law_table","_law_one","_law_line","_law_other","_law_found"]:List Str); decide +kernel) (by show (".0":Str) ∉ (["_law_script","_law_n","_law_work","_law_numbers","_law_words","_law_x","_law_wires","_law_others","_law_table","_law_one","_law_line","_law_other","_law_found"]:List Str); decide +kernel) a4n.nd rfl (a3z rfl a2z (a0a (pv 1) a0f)) (fun _ _ _ _=>(b6u (a0v (a6n) (a0j (a2g) (a0j (a7v) (pv 6) (pv 0)) a0d) a0d (a1d _)))) (fun _ _ _ _=>(pv 0)))
   (a0b (a0p (i:=8) a4n.nd rfl (Or.inl rfl) (b3p a0f))
   (a0b (a6f PassesOwn.never rfl (a3z rfl a2z (a0a (a0j (a2d) a0d (a1w (a3k) rfl a4f PySem.boot_len (a0a (pv 6) a0f))) a0f)) (a1c (i:=9) a4n.nd rfl (Or.inl rfl)) (a0b (a0p (i:=10) a4n.nd rfl (Or.inl rfl) (b3p a0f))
   (a0b (a6f PassesOwn.never rfl (a3z rfl a2z (a0a (a0j (a2d) a0d (a1w (a3k) rfl a4f PySem.boot_len (a0a (pv 7) a0f))) a0f)) (a1c (i:=11) a4n.nd rfl (Or.inl rfl)) (a0g (a2y (pe_bm PySem.F.plainAttrs_list PySem.F.slot_list_append PySem.F.type_list_append a6k (pv 10) (a0a (pe_dget2 (hu_of hr) (pv 3) (a0j (a4a) (a2f a3e hr a1z (a0a (pv 9) (a0a (pv 6) a0f))) (a2f a3e hr a1z (a0a (pv 11) (a0a (pv 7) a0f)))) (a2r (a0a a0d (a0a a0d a0f))) ⟨rfl,rfl,rfl,rfl⟩) a0f)))))
   (a0g (a2y (pe_bm PySem.F.plainAttrs_list PySem.F.slot_list_append PySem.F.type_list_append a6k (pv 8) (a0a (pv 10) a0f)))))))
   (a0b (a0p (i:=12) a4n.nd rfl (Or.inl rfl) (a2f b2p hr passE0 (a0a (a6x (sc:=a0k b1j) rfl ⟨rfl,by decide +kernel,rfl,by decide +kernel,by decide +kernel,by decide +kernel,by decide +kernel⟩ (by show ("_law_k":Str) ∉ (["_law_script","_law_n","_law_work","_law_numbers","_law_words","_law_x","_law_wires","_law_others","_law_table","_law_one","_law_line","_law_other","_law_found"]:List Str); decide +kernel) (by show (".0":Str) ∉ (["_law_script","_law_n","_law_work","_law_numbers","_law_words","_law_x","_law_wires","_law_others","_law_table","_law_one","_law_line","_law_other","_law_found"]:List Str); decide +kernel) a4n.nd rfl (a3z rfl a2z (a0a (pv 1) a0f)) (fun _ _ _ _=>a5s) (fun _ _ _ _=>(a2f a4v hr a1z (a0a (pv 3) (a0a (a2r (a0a a0d (a0a a0d (a0a (a0j (a2d) a0d (pv 0)) a0f)))) a0f))))) (a0a (pv 6) (a0a (pv 1) a0f)))))
   (a0g (a0x (pe_and (pe_isB rfl a0t (pv 12) b_int boot_int) (pe_and (pe_chain (op_le) (op_le) a0d (pv 12) (pv 1)) (pe_one (b1h (a6n) (a2f a5k hr a1z (a0a (pv 8) a0f)) (a0j (a2d) a0d (pv 12)) (a1d _))))))))))))))))),?_⟩
 fail "st";fail "go";refine ⟨a,0,ns,rfl,ha,fun c0 _=>?_⟩;obtain ⟨n,en,h0,h5i⟩:=one_mod c0 5 (by decide) (by decide);have h5:n <= 5:=by omega
 fail "go";rw [en];refine st_cpE ?_;fail "go";rename_i p1 hp1;obtain ⟨ms,ems,lms⟩:=cut_intsG ns 2 22;rw [show cutV (ns.map V.int) (some 2) (some 22) = ms.map V.int from ems];refine st_cpAt (SqL.of a0c) (fun i ys H'=>a1u (upd H p1 (.lst (ms.map V.int))) H'/\∃ cs ds,ys=a1q cs/\a5d (Wt H') cs ds/\(∀ d ∈ ds,Dd.Ok d n)/\cs.length=i) (by rw [List.length_map]; omega) ⟨a1u.refl _,[],[],rfl,.nil,fun _ z=>(nomatch z),rfl⟩ ?_ ?_ ?_ ?_
 ·rintro i ys H' ⟨_,cs,ds,rfl,_,_,e⟩;rw [a0n,e];exact Nat.le_refl _
 ·rintro i ys H' ⟨hS,_⟩;exact hS.seq (SqL.of a0c)
 ·rintro i x ys H' hx ⟨hS,cs,ds,rfl,hW,hok,e⟩;obtain ⟨c,rfl⟩:=int_get hx;fail "go";refine ⟨c,n,rfl,h0,by omega,fun p H3 d hS3 hw3 ok3=>?_⟩;refine ⟨hS.trans hS3,cs ++ [p],ds ++ [d],a3h _ _,(hW.mono fun a d x=>hS3 _ _ x).snoc hw3,fun d' hd'=>?_,by rw [List.length_append,e]; rfl⟩
  rcases List.mem_append.mp hd' with z | z
  ·exact hok d' z
  ·cases List.mem_singleton.mp z;exact ok3
 rintro ys H' ⟨hS,as,ds,rfl,hW0,hok,e⟩ pw hpw;rw [List.length_map] at e;have f_w:(upd H' pw (.lst (a1q as))) pw=some (.lst (a1q as)):=a0c;have W2:a5d (Wt (upd H' pw (.lst (a1q as)))) as ds:=hW0.mono fun a d x=>a0e hpw _ _ _ x;have ha2:SqL K (upd H' pw (.lst (a1q as))) a (ns.map V.int):=(((a0e hp1 _).trans hS).trans (a0e hpw _)).seq ha;generalize upd H' pw (.lst (a1q as)) = H2 at f_w W2 ha2 ⊢;clear hW0 hS hp1 ems ha;have lds:=W2.len;fail "go";refine st_disp1 (fun p3 hp3=>?_);fail "go";rename_i p4 hp4;refine st_disp2 (a0e hp4 _ _ _ a0c) ?_;obtain ⟨g1,g2,g3⟩:=disp_at (K:=K) (b:=0) hp3 hp4;generalize upd (upd (upd H2 p3 (.dK [])) p4 (.tup [.int 1,.int 0])) p3 (.dK [(.inl 0,.ref p4)]) = G at g1 g2 g3 ⊢;have fG:=g1 _ _ f_w;have WG:=W2.mono fun a d x=>g1 _ _ x;have aG:=g1.seq ha2;clear f_w W2 ha2 g1 hp3 hp4;fail "go";refine a9m (fun P h=>⟨_,rfl,h⟩) (SqL.of fG) (fun i σ H'=>∃ (u4:Option V) (pn:Addr),σ=[some (.ref a),some (.int (n:Int)),some (.ref pw),some (.ref pn),u4,none,none,none,none,none,none,none,none]/\a1u G H'/\WhAt K H' pn (wF (ds.take i))) ⟨none,p3,rfl,a1u.refl _,⟨_,g2,g3⟩⟩ ?_ ?_ ?_
 ·rintro i σ H' _ ⟨_,_,_,s,_⟩;exact SqL.of (s _ _ fG)
 ·rintro i x σ H' hx ⟨u4,pn,rfl,s,hw⟩;obtain ⟨t,ht,rfl⟩:=a2q hx;obtain ⟨d,hd,hdt⟩:=WG.get ht;have wf:=WF.all (n:=n) i hok (by have:=(List.getElem?_eq_some_iff.1 hd).1; omega);fail "go";refine ⟨t,pn,d,n,_,rfl,s _ _ hdt,hok d (List.mem_of_getElem? hd),by omega,hw,wf.nd,by have:=wf.len h5; omega,fun p5 H5 s5 _ w5=>?_⟩;fail "go";refine ⟨_,p5,rfl,s.trans s5,?_⟩;rw [wF_take hd];exact w5
 rintro σ H3 ⟨u4,pn,rfl,s3,hw3⟩;rw [a0n,lds,List.take_length] at hw3;have wf:=WF.all (n:=n) ds.length hok (Nat.le_refl _);rw [List.take_length] at wf;have f3:=s3 _ _ fG;have W3:=WG.mono fun a d x=>s3 _ _ x;have a3:=s3.seq aG;clear fG WG aG s3 g2 g3;fail "go";refine ⟨a,1,ns,rfl,a3,fun c1 _=>?_⟩;fail "go";refine ⟨c1,1,rfl,by decide,fun px H4 xs s4 hpx hlx h0x=>?_⟩;obtain ⟨x0,rfl⟩:=len1P hlx h0x;have hpx':SqL K H4 px [.int (x0:Int)]:=SqL.of hpx;have f4:=s4 _ _ f3;have W4:=W3.mono fun a d x=>s4 _ _ x
 have hw4:WhAt K H4 pn (wF ds):=by
  obtain ⟨kvs,k1,k2⟩:=hw3;exact ⟨kvs,s4 _ _ k1,k2.stay fun y ys z=>s4.tup z⟩
 clear f3 W3 hw3 a3 s4 hpx hlx h0x;fail "go"
 have bitE:∀ i:Nat,Builtin.bitAnd ((x0:Int) / 64 / 2 ^ i) 1=(((x0 / 64).testBit i).toNat:Int):=fun i=>by
  rw [show (x0:Int) / 64 / 2 ^ i=((x0 / 64 / 2 ^ i:Nat):Int) by push_cast; rfl,show (1:Int) = ((1:Nat):Int) from rfl,a3t,Nat.and_one_is_mod,Nat.toNat_testBit]
 refine a6p (n:=n) (by omega) (fun P h=>⟨_,rfl,h⟩) (fun i ys H'=>H' = H4/\ys=vn ((List.range i).filter fun k=>(x0 / 64).testBit k)) ⟨rfl,rfl⟩ ?_ ?_ ?_
 ·rintro i ys H' ⟨_,rfl⟩;rw [a6a];exact Nat.le_trans (List.length_filter_le ..) (by rw [List.length_range]; exact Nat.le_refl _)
 ·rintro i ys H' hi ⟨rfl,rfl⟩;fail "go";rw [bitE];have hb:decide ((((x0 / 64).testBit i).toNat:Int) = 1) = (x0 / 64).testBit i:=by cases (x0 / 64).testBit i <;> rfl
  rw [hb,List.range_succ,List.filter_append]
  cases e:(x0 / 64).testBit i with
  | true=>
   fail "go";refine ⟨rfl,?_⟩;rw [<- vn_app,List.filter_cons_of_pos (by exact e)];rfl
  | false=>
   fail "go";refine ⟨rfl,?_⟩;rw [List.filter_cons_of_neg (by rw [e]; decide),List.filter_nil,List.append_nil]
 rintro ys H' ⟨rfl,rfl⟩ pA hpA;have nA:=a0e hpA (.lst (vn ((List.range n).filter fun k=>(x0 / 64).testBit k)));have fA:(upd H' pA (.lst (vn ((List.range n).filter fun k=>(x0 / 64).testBit k)))) pA=some (.lst (vn ((List.range n).filter fun k=>(x0 / 64).testBit k))):=a0c;generalize upd H' pA (.lst (vn ((List.range n).filter fun k=>(x0 / 64).testBit k))) = H8 at nA fA ⊢;fail "go";refine a6p (n:=n) (by omega) (fun P h=>⟨_,rfl,h⟩) (fun i ys H''=>H'' = H8/\ys=vn ((List.range i).filter fun k=>!(x0 / 64).testBit k)) ⟨rfl,rfl⟩ ?_ ?_ ?_
 ·rintro i ys H'' ⟨_,rfl⟩;rw [a6a];exact Nat.le_trans (List.length_filter_le ..) (by rw [List.length_range]; exact Nat.le_refl _)
 ·rintro i ys H'' hi ⟨rfl,rfl⟩;fail "go";rw [bitE];have hb:decide ((((x0 / 64).testBit i).toNat:Int) = 0) = !(x0 / 64).testBit i:=by cases (x0 / 64).testBit i <;> rfl
  rw [hb,List.range_succ,List.filter_append]
  cases e:(x0 / 64).testBit i with
  | false=>
   fail "go";refine ⟨rfl,?_⟩;rw [<- vn_app,List.filter_cons_of_pos (by rw [e]; rfl)];rfl
  | true=>
   fail "go";refine ⟨rfl,?_⟩;rw [List.filter_cons_of_neg (by rw [e]; decide),List.filter_nil,List.append_nil]
 rintro ys H'' ⟨rfl,rfl⟩ pB hpB;have nB:=nA.trans (a0e hpB (.lst (vn ((List.range n).filter fun k=>!(x0 / 64).testBit k))));have fB:(upd H'' pB (.lst (vn ((List.range n).filter fun k=>!(x0 / 64).testBit k)))) pB=some (.lst (vn ((List.range n).filter fun k=>!(x0 / 64).testBit k))):=a0c;have fA9:=a0e hpB (.lst (vn ((List.range n).filter fun k=>!(x0 / 64).testBit k))) _ _ fA;generalize upd H'' pB (.lst (vn ((List.range n).filter fun k=>!(x0 / 64).testBit k))) = H9 at nB fB fA9 ⊢;have mA0:∀ k,k ∈ (List.range n).filter (fun k=>(x0 / 64).testBit k) ↔ k < n/\(x0 / 64).testBit k=true:=fun k=>by rw [List.mem_filter,List.mem_range]
 have mB0:∀ k,k ∈ (List.range n).filter (fun k=>!(x0 / 64).testBit k) ↔ k < n/\(x0 / 64).testBit k=false:=fun k=>by rw [List.mem_filter,List.mem_range]; simp
 have ndA0:((List.range n).filter fun k=>(x0 / 64).testBit k).Nodup:=List.nodup_range.filter _;have ndB0:((List.range n).filter fun k=>!(x0 / 64).testBit k).Nodup:=List.nodup_range.filter _;have lAB:=b7m (fun k=>(x0 / 64).testBit k) (List.range n);rw [List.length_range] at lAB;generalize ((List.range n).filter fun k=>(x0 / 64).testBit k) = A0 at fA9 mA0 ndA0 lAB ⊢;generalize ((List.range n).filter fun k=>!(x0 / 64).testBit k) = B at fB mB0 ndB0 lAB ⊢
 have two:Two n A0 B:=⟨ndA0,ndB0,fun k hk=>((mA0 k).1 hk).1,fun k hk=>((mB0 k).1 hk).1,fun k hk=>by
  rw [mA0,mB0]
  cases (x0 / 64).testBit k <;> simp [hk]⟩
 have f9:=nB _ _ f4;have W9:a5d (Wt H9) as ds:=W4.mono fun a d x=>nB _ _ x
 have hw9:WhAt K H9 pn (wF ds):=by
  obtain ⟨kvs,k1,k2⟩:=hw4;exact ⟨kvs,nB _ _ k1,k2.stay fun y ys z=>nB.tup z⟩
 have sA9:SqL K H9 pA (vn A0):=SqL.of fA9;have sB9:SqL K H9 pB (vn B):=SqL.of fB;have A40:∀ k ∈ A0,k <= 40:=fun k hk=>by have:=two.ltA k hk; omega
 have B40:∀ k ∈ B,k <= 40:=fun k hk=>by have:=two.ltB k hk; omega
 have pA5:2 ^ A0.length <= 2 ^ 5:=Nat.pow_le_pow_right (by decide) (by omega);have pB5:2 ^ B.length <= 2 ^ 5:=Nat.pow_le_pow_right (by decide) (by omega);obtain ⟨kvs,hk9,hwr9⟩:=hw9;clear nA nB fA hpx' f4 W4 hw4 hpA hpB bitE mA0 mB0;fail "go";rename_i pt hpt;refine a4g (n:=2 ^ A0.length) (by omega) (fun P h=>?_) (fun i σ H'=>∃ (u9 u10 u11:Option V) (cs:List Addr),σ=[some (.ref a),some (.int (n:Int)),some (.ref pw),some (.ref pn),u4,some (.int ((x0:Int) / 64)),some (.ref pA),some (.ref pB),some (.ref pt),u9,u10,u11,none]/\a1u H9 H'/\H' pt=some (.lst (a1q cs))/\a5d (a3p K H') cs ((List.range i).map fun i=>(List.range (2 ^ B.length)).map fun j=>wv (wF ds) (lay A0 i + lay B j))/\∀ c ∈ cs,c ≠ pt) ⟨none,none,none,[],rfl,a0e hpt _,a0c,.nil,fun _ z=>(nomatch z)⟩ ?_ ?_
 ·have sA':=(a0e hpt (.lst [])).seq sA9;fail "go";rw [a6a];fail "go";exact h
 ·rintro i σ H' hi ⟨u9,u10,u11,cs,rfl,s,fc,hc,hcn⟩;fail "go";rename_i pl hpl;have lcs:=hc.len;rw [List.length_map,List.length_range] at lcs;refine a4g (n:=2 ^ B.length) (by omega) (fun P h=>?_) (fun j σ H2=>∃ (u11:Option V) (ts:List Addr),σ=[some (.ref a),some (.int (n:Int)),some (.ref pw),some (.ref pn),u4,some (.int ((x0:Int) / 64)),some (.ref pA),some (.ref pB),some (.ref pt),some (.int (i:Int)),some (.ref pl),u11,none]/\a1u H' H2/\H2 pl=some (.lst (a1q ts))/\a5d (b1d K H2) ts ((List.range j).map fun j=>wv (wF ds) (lay A0 i + lay B j))) ⟨u11,[],rfl,a0e hpl _,a0c,.nil⟩ ?_ ?_
  ·have sB':=(s.trans (a0e hpl (.lst []))).seq sB9;fail "go";rw [a6a];fail "go";exact h
  ·rintro j σ H2 hj ⟨u11,ts,rfl,s2,ft,ht⟩;have lts:=ht.len;rw [List.length_map,List.length_range] at lts;fail "go";refine ⟨pn,rfl,.inl ⟨kvs,.inl ((s.trans s2) _ _ hk9)⟩,?_⟩;fail "go";refine ⟨i,pA,A0,rfl,(s.trans s2).seq sA9,by omega,A40,fun H3 s3=>?_⟩;fail "go";refine ⟨j,pB,B,rfl,((s.trans s2).trans s3).seq sB9,by omega,B40,fun H4 s4=>?_⟩;fail "go";rename_i p5 hp5;have n5:=a0e hp5 (.tup [.int 0,.int 0]);have S24:=(s3.trans s4).trans n5;have t5:b1d K (upd H4 p5 (.tup [.int 0,.int 0])) p5 (0,0):=SqT.of a0c;generalize upd H4 p5 (.tup [.int 0,.int 0]) = H5 at n5 S24 t5 ⊢;have key:((spr A0 i:Nat):Int) + ((spr B j:Nat):Int) = ((lay A0 i + lay B j:Nat):Int):=by rw [spr_lay ndA0,spr_lay ndB0]; push_cast; rfl
   rw [key];have S5:=(s.trans s2).trans S24;refine ⟨_,dget_z (.inl (S5 _ _ hk9)),?_⟩
   obtain ⟨t,et,tp⟩:∃ t,(atZ kvs ((lay A0 i + lay B j:Nat):Int)).getD (.ref p5) = .ref t/\b1d K H5 t (wv (wF ds) (lay A0 i + lay B j)):=by
    rcases hwr9.val (lay A0 i + lay B j) with ⟨e1,e2⟩ | ⟨a',p',e1,e2,e3⟩
    ·exact ⟨p5,by rw [show atZ kvs ((lay A0 i + lay B j:Nat):Int) = none from e1]; rfl,by unfold wv; rw [e2]; exact t5⟩
    ·exact ⟨a',by rw [show atZ kvs ((lay A0 i + lay B j:Nat):Int) = some (.ref a') from e1]; rfl,by unfold wv; rw [e3]; exact S5.tup e2⟩
   rw [et];have ft5:=S24 _ _ ft;have hle:(a1q ts).length <= 900:=by rw [a0n]; omega
   have ht5:=ht.mono fun a d (x:b1d K H2 a d)=>b1d.same S24 x;clear hp5 n5 s3 s4 key et;fail "go";have hB:But pl H5 (upd H5 pl (.lst (a1q ts ++ [.ref t]))):=But.upd;refine ⟨_,ts ++ [t],rfl,But.same (s2.trans S24) hB hpl,by rw [a0c,a3h],?_⟩;rw [List.range_succ,List.map_append];exact (ht5.mono fun a d (z:b1d K H5 a d)=>hB.sq ft5 z).snoc (hB.sq ft5 tp)
  ·rintro σ H2 ⟨u11,ts,rfl,s2,ft,ht⟩;have fc2:=s2 _ _ fc;have hle:(a1q cs).length <= 900:=by rw [a0n]; omega
   have hc2:=hc.mono fun a d (x:a3p K H' a d)=>a3p.same s2 x;have ln2:a3p K H2 pl _:=⟨ts,ft,ht⟩;have plt:pl ≠ pt:=fun z=>by rw [z,fc] at hpl; cases hpl
   clear hc ht;fail "go";have hB:But pt H2 (upd H2 pt (.lst (a1q cs ++ [.ref pl]))):=But.upd;refine ⟨_,_,_,cs ++ [pl],rfl,But.same (s.trans s2) hB hpt,by rw [a0c,a3h],?_,fun c hc'=>?_⟩
   ·rw [List.range_succ,List.map_append];exact (all2_but hB fc2 hc2 hcn).snoc (a3p.but hB fc2 plt ln2)
   ·rcases List.mem_append.1 hc' with z | z
    ·exact hcn c z
    ·rw [List.mem_singleton.1 z]; exact plt
 rintro σ H5 ⟨u9,u10,u11,cs,rfl,s5,fc,hc,hcn⟩;have f5:=s5 _ _ f9;have W5:a5d (Wt H5) as ds:=W9.mono fun a d x=>s5 _ _ x;have sA5:=s5.seq sA9;clear hcn s5 f9 W9 sA9 sB9 fA9 fB hk9 hwr9 hpt;fail "go";refine a6p (n:=n) (by omega) (fun P h=>⟨_,rfl,h⟩) (fun i ys H'=>a1u H5 H'/\∃ cs,ys=a1q cs/\a5d (Rt K H') cs ((List.range i).map fun k=>im ds (2 ^ k))) ⟨a1u.refl _,[],rfl,.nil⟩ ?_ ?_ ?_
 ·rintro i ys H' ⟨_,cs,rfl,e⟩;rw [a0n,e.len,List.length_map,List.length_range];exact Nat.le_refl _
 ·rintro i ys H' hi ⟨s,cs,rfl,e⟩;fail "go";rename_i t1 k1;have S4:=s.trans (a0e k1 (.tup [.int 0,.int 0,.int ((2 ^ i:Nat):Int)]));refine ⟨pw,t1,n,as,ds,⟨0,0,2 ^ i⟩,rfl,SqL.of (S4 _ _ f5),W5.mono (fun a d x=>S4 _ _ x),hok,by omega,a0c,fun p H5 s5 hp5=>?_⟩;refine ⟨S4.trans s5,cs ++ [p],a3h _ _,?_⟩;rw [List.range_succ,List.map_append];exact (e.mono fun a d (x:Rt K H' a d)=>Rt.same ((a0e k1 _).trans s5) x).snoc hp5
 rintro ys H' ⟨s,rs,rfl,W6⟩ pr hpr;have S6:=s.trans (a0e hpr (.lst (a1q rs)));have f_r:(upd H' pr (.lst (a1q rs))) pr=some (.lst (a1q rs)):=a0c;have W7:=W6.mono fun a d (x:Rt K H' a d)=>Rt.same (a0e hpr (.lst (a1q rs))) x;generalize upd H' pr (.lst (a1q rs)) = H6 at S6 f_r W7 ⊢;have sA6:=S6.seq sA5;have fc6:=S6 _ _ fc;have hc6:=hc.mono fun a d (x:a3p K H5 a d)=>a3p.same S6 x;have lrs:rs.length=n:=by rw [W7.len,List.length_map,List.length_range]
 have wl:=Wl.plain (show n <= 40 by omega) hok;have okr:∀ r ∈ (List.range n).map fun k=>im ds (2 ^ k),r.Ok n:=fun r hr=>(wl.wh r hr).ok hok;clear W6 s hpr S6 sA5 fc hc f5 W5;fail "go";refine ⟨pr,pA,n,rs,_,A0.map (fun k:Nat=>(k:Int)),rfl,f_r,W7,okr,by omega,by omega,by rw [b6y]; exact sA6,by rw [List.length_map]; omega,fun H7 ka A' s7 gd e _ _ rk=>?_,fun H' _ z=>(z ⟨ds,hok,wl⟩).elim,fun H' _ _ z=>(z (gw_good ndA0 two.ltA)).elim⟩;obtain rfl:=cast_inj e;have stn:=wf.stn hok gd;have fc7:=s7 _ _ fc6;have hc7:=hc6.mono fun a d (x:a3p K H6 a d)=>a3p.same s7 x;have tl:=tab_len (f:=wv (wF ds)) (A:=A0) (B:=B)
 have bn:∀ l ∈ tabOf (wv (wF ds)) A0 B,Lb 24 l:=tab_bnd wf.bn (by
  have h1:2 ^ ds.length <= 2 ^ 20:=Nat.pow_le_pow_right (by decide) (by omega)
  omega)
 have h4:2 ^ A0.length <= 4\/2 ^ B.length <= 4:=by
  rcases Nat.lt_or_ge A0.length 3 with c | c
  ·exact .inl (Nat.pow_le_pow_right (n:=2) (j:=2) (by decide) (by omega))
  ·exact .inr (Nat.pow_le_pow_right (n:=2) (j:=2) (by decide) (by omega))
 obtain ⟨e',_,ee,_⟩:=stn.table two rk;obtain ⟨kb,hkb⟩:=Rk.ex n ((List.range n).map fun k=>im ds (2 ^ k)) B;have hh:=Rk.half stn.ok stn.gd two.ndA two.ltA two.ndB two.ltB two.ab rk hkb;clear f_r W7 sA6 fc6 hc6 okr wl e;rw [show (ka:Int) - (A0.length:Int) = ((e':Nat):Int) by omega];fail "go";rw [decide_eq_true (show (0:Int) <= ((e':Nat):Int) by omega)];fail "go";rw [decide_eq_true (show ((e':Nat):Int) <= (n:Int) by omega)];fail "go";refine ⟨pt,cs,tabOf (wv (wF ds)) A0 B,2 ^ B.length,rfl,fc7,hc7,tl.2,bn,by rw [tl.1]; exact Nat.two_pow_pos _,by rw [tl.1]; omega,by omega,by rw [tl.1]; exact h4,fun m a2e H8 s8 el=>?_⟩;obtain ⟨e2,k1,k2,_⟩:=tab_fin stn two rk el;obtain rfl:e2=e':=by omega
 subst k2;fail "go";rw [decide_eq_true rfl];exact q _
end
abbrev NS (K:PySem.W.Frag)(x:Str)(a:Addr):Prop:=PySem.W.nsIn K mainGlobals x=some (some (.ref a))
abbrev NZ (K:PySem.W.Frag)(x:Str):Prop:=PySem.W.nsIn K mainGlobals x=some none
abbrev FI (K:PySem.W.Frag)(C:Addr)(x:Str)(a:Addr):Prop:=PySem.W.findIn K (.ref C) x=some (some (.ref a))
abbrev FN (K:PySem.W.Frag)(C:Addr)(x:Str):Prop:=PySem.W.findIn K (.ref C) x=some none
abbrev FA (K:PySem.W.Frag)(f:Addr)(x q:Str)(s:Stmt):Prop:=∃ d,Fun K x q s f d
theorem a2b {P:Program}{mg:Str->Option Value}{base:Heap}{CX:CXT}{x:Str}{ps:List Str}{sp:Sp}{fd:FuncData}(o:a4p P w K mg base CX k f fd ps sp)(b:b4a K fd ps [])(p:PySem.W.keepIn K (.ref f) = true)(m:mg x=some (.ref f)):Cal P w K mg base CX k x ps sp:=⟨f,fd,o,b,p,m⟩
structure OwnC (K:PySem.W.Frag)(C:Addr):Prop where
 pg:PySem.W.plainGet K C Str.empty=true
 hd:PySem.W.hasDictIn K C=true
 po:PySem.W.plainOver K C=true
 sa:PySem.W.findIn K (.ref C) "__setattr__" = some (some (.builtin "object.__setattr__"))
 mm:PySem.W.makesIn K C=true
 kc:PySem.W.keepIn K (.ref C) = true
theorem bnd1 (h:us.length=1):∃ a,us=[a]:=match us,h with | [a],_=>⟨a,rfl⟩
theorem bnd2 (h:us.length=2):∃ a b,us=[a,b]:=match us,h with | [a,b],_=>⟨a,b,rfl⟩
theorem bnd3 (h:us.length=3):∃ a b c,us=[a,b,c]:=match us,h with | [a,b,c],_=>⟨a,b,c,rfl⟩
theorem bnd4 (h:us.length=4):∃ a b c d,us=[a,b,c,d]:=match us,h with | [a,b,c,d],_=>⟨a,b,c,d,rfl⟩
local macro_rules | `(tactic| fail "b1")=>`(tactic| exact fun _ _ _ _ _ _ us hl=>by obtain ⟨_,e⟩:=bnd1 hl; subst e; rfl)
local macro_rules | `(tactic| fail "b2")=>`(tactic| exact fun _ _ _ _ _ _ us hl=>by obtain ⟨_,_,e⟩:=bnd2 hl; subst e; rfl)
local macro_rules | `(tactic| fail "b3")=>`(tactic| exact fun _ _ _ _ _ _ us hl=>by obtain ⟨_,_,_,e⟩:=bnd3 hl; subst e; rfl)
local macro_rules | `(tactic| fail "b4")=>`(tactic| exact fun _ _ _ _ _ _ us hl=>by obtain ⟨_,_,_,_,e⟩:=bnd4 hl; subst e; rfl)
theorem all_mk {l:PySem.W.OpenLaw}{w:World}{h:Heap}{mg:Str->Option Value}{fa f0 f1 f2 f3 f4 f5 f6 f7 f8 f9 f10 f11 f12 f13 f14 f15 f16 f17 f18 f19 f20 f21 f22 f23 f24 f25 f26 f27 f28 f29 f30:Addr}{od30 an30:Option Addr}{sl30:Array (Option Value)}{oc30 kV30 dc30 pm30 ct30 cd30:Value}{t_XS t_ZS t_MINUS:Tok}{a3c:Addr}{b4k a3f a4s:Addr}(KX:K.In h)(G:h.Ns mainGlobals mg)(hfa:mg "law" = some (.ref fa))
  (v_Span:NS K "Span" a3c)
  (mt_Span_left_of:FI K a3c "left_of" f1)
  (if_1:PySem.W.isFn K (.ref f1) = true)
  (mt_Span_take:FI K a3c "take" f3)
  (if_3:PySem.W.isFn K (.ref f3) = true)
  (mt_Span_rank:FI K a3c "rank" f0)
  (if_0:PySem.W.isFn K (.ref f0) = true)
  (mt_Span___init__:FI K a3c "__init__" f4)
  (if_4:PySem.W.isFn K (.ref f4) = true)
  (h0:FA K f0 "rank" "Span.rank" a9k)
  (h1:FA K f1 "left_of" "Span.left_of" a5t)
  (a2:NS K "lowest_bit" f2)
  (h2:FA K f2 "lowest_bit" "lowest_bit" a7z)
  (h3:FA K f3 "take" "Span.take" a9p)
  (h4:FA K f4 "__init__" "Span.__init__" a5a)
  (a5:NS K "ones" f5)
  (h5:FA K f5 "ones" "ones" s_ones)
  (a6:NS K "goes_beside" f6)
  (h6:FA K f6 "goes_beside" "goes_beside" a7a)
  (a7:NS K "all_beside" f7)
  (h7:FA K f7 "all_beside" "all_beside" a3b)
  (a8:NS K "are_apart" f8)
  (h8:FA K f8 "are_apart" "are_apart" a9q)
  (a9:NS K "fits" f9)
  (h9:FA K f9 "fits" "fits" s_fits)
  (a10:NS K "is_whole_number" f10)
  (h10:FA K f10 "is_whole_number" "is_whole_number" a3u)
  (a11:NS K "checked_row" f11)
  (h11:FA K f11 "checked_row" "checked_row" a4u)
  (a12:NS K "is_row" f12)
  (h12:FA K f12 "is_row" "is_row" b7s)
  (a13:NS K "signs_number" f13)
  (h13:FA K f13 "signs_number" "signs_number" a5u)
  (a14:NS K "check_whole" f14)
  (h14:FA K f14 "check_whole" "check_whole" a3j)
  (a15:NS K "check_wires" f15)
  (h15:FA K f15 "check_wires" "check_wires" a6q)
  (a16:NS K "at_wires" f16)
  (h16:FA K f16 "at_wires" "at_wires" b1n)
  (a17:NS K "common" f17)
  (h17:FA K f17 "common" "common" b0k)
  (a18:NS K "_law_stream" f18)
  (h18:FA K f18 "_law_stream" "_law_stream" a7b)
  (a19:NS K "_law_deed" f19)
  (h19:FA K f19 "_law_deed" "_law_deed" a9r)
  (a20:NS K "_law_put" f20)
  (h20:FA K f20 "_law_put" "_law_put" b1m)
  (a21:NS K "_law_moved" f21)
  (h21:FA K f21 "_law_moved" "_law_moved" a8a)
  (a22:NS K "_law_done" f22)
  (h22:FA K f22 "_law_done" "_law_done" a9j)
  (a23:NS K "_law_cell_at" f23)
  (h23:FA K f23 "_law_cell_at" "_law_cell_at" a5w)
  (a24:NS K "_law_on" f24)
  (h24:FA K f24 "_law_on" "_law_on" b5a)
  (a25:NS K "_law_behind" f25)
  (h25:FA K f25 "_law_behind" "_law_behind" a7d)
  (a26:NS K "_law_by" f26)
  (h26:FA K f26 "_law_by" "_law_by" b3r)
  (a27:NS K "_law_cleared" f27)
  (h27:FA K f27 "_law_cleared" "_law_cleared" a5z)
  (a28:NS K "_law_apart" f28)
  (h28:FA K f28 "_law_apart" "_law_apart" a3a)
  (a29:NS K "_law_spread" f29)
  (h29:FA K f29 "_law_spread" "_law_spread" a7f)
  (a30:NS K "law" f30)
  (l30:K.lookup f30=some ⟨oc30,od30,.func (PySem.W.fnOf "law" "law" (b0z b1j) (a8f b1j) (a0k b1j) .none kV30 dc30 pm30 an30 cd30 ct30),sl30⟩)
  (q30:PySem.W.codeIn K cd30 "law" = true)
  (k30:PySem.W.keepIn K (.ref f30) = true)
  (v_XS:PySem.W.nsIn K mainGlobals "XS" = some (some (Value.int 1 t_XS)))
  (v_ZS:PySem.W.nsIn K mainGlobals "ZS" = some (some (Value.int 2 t_ZS)))
  (v_MINUS:PySem.W.nsIn K mainGlobals "MINUS" = some (some (Value.int 0 t_MINUS)))
  (v_NoRow:NS K "NoRow" b4k) (x_NoRow:ExcK K b4k)
  (b4x:NS K "NoWhole" a3f) (b4t:ExcK K a3f)
  (b6v:NS K "NoWire" a4s) (b6w:ExcK K a4s)
  (b2a:OwnC K a3c)
  (a7w:FN K a3c "sums")
  (a7c:FN K a3c "taken")
  (z_len:NZ K "len")
  (z_all:NZ K "all")
  (a9s:NZ K "enumerate")
  (a8h:NZ K "isinstance")
  (z_int:NZ K "int")
  (z_bool:NZ K "bool")
  (z_tuple:NZ K "tuple")
  (z_list:NZ K "list")
  (z_sum:NZ K "sum")
  (z_range:NZ K "range")
  (z_max:NZ K "max")
  (z_zip:NZ K "zip") :
  ∃ fd:FuncData,(∀ (s:Shared) (v:Value),BindsTo s fd ⟨[v],[]⟩ [("_law_script",v)])/\∀ base:Heap,K.In base->base.Ns mainGlobals mg->a4p l.prog w K mg base CX0 8 fa fd ["_law_script"] (sp_law K):=by
 have e:=hfa.symm.trans (PySem.W.mg_of KX G a30);cases e;have F0:=h0.choose_spec;have b0:=F0.binds (ps:=["self"]) (by fail "b1");have F1:=h1.choose_spec;have b1:=F1.binds (ps:=["self","number","which"]) (by fail "b3");have F2:=h2.choose_spec;have F3:=h3.choose_spec;have b3:=F3.binds (ps:=["self","number"]) (by fail "b2");have F4:=h4.choose_spec;have b4:=F4.binds (ps:=["self","numbers"]) (by fail "b2");have F5:=h5.choose_spec;have F6:=h6.choose_spec;have F7:=h7.choose_spec;have F8:=h8.choose_spec;have F9:=h9.choose_spec;have F10:=h10.choose_spec;have F11:=h11.choose_spec;have F12:=h12.choose_spec;have F13:=h13.choose_spec;have F14:=h14.choose_spec;have F15:=h15.choose_spec;have F16:=h16.choose_spec;have F17:=h17.choose_spec;have F18:=h18.choose_spec;have F19:=h19.choose_spec;have F20:=h20.choose_spec;have F21:=h21.choose_spec;have F22:=h22.choose_spec;have F23:=h23.choose_spec;have F24:=h24.choose_spec;have F25:=h25.choose_spec;have F26:=h26.choose_spec;have F27:=h27.choose_spec;have F28:=h28.choose_spec;have F29:=h29.choose_spec;have F30:=fun_mk (st:=b1j) l30 q30 k30;have g_XS:GC mg "XS" (.int 1):=⟨_,PySem.W.mg_of KX G v_XS,⟨_,rfl⟩⟩;have g_ZS:GC mg "ZS" (.int 2):=⟨_,PySem.W.mg_of KX G v_ZS,⟨_,rfl⟩⟩;have a8b:GC mg "MINUS" (.int 0):=⟨_,PySem.W.mg_of KX G v_MINUS,⟨_,rfl⟩⟩;have a6w:ExcC K mg "NoRow" b4k:=⟨PySem.W.mg_of KX G v_NoRow,x_NoRow⟩;have a5c:ExcC K mg "NoWhole" a3f:=⟨PySem.W.mg_of KX G b4x,b4t⟩;have b0u:ExcC K mg "NoWire" a4s:=⟨PySem.W.mg_of KX G b6v,b6w⟩;have a4f:mg "len" = none:=PySem.W.mg_none_of KX G z_len;have b3z:mg "all" = none:=PySem.W.mg_none_of KX G z_all;have a1r:mg "enumerate" = none:=PySem.W.mg_none_of KX G a9s;have a0t:mg "isinstance" = none:=PySem.W.mg_none_of KX G a8h;have b_int:mg "int" = none:=PySem.W.mg_none_of KX G z_int;have b_bool:mg "bool" = none:=PySem.W.mg_none_of KX G z_bool;have b7d:mg "tuple" = none:=PySem.W.mg_none_of KX G z_tuple;have b_list:mg "list" = none:=PySem.W.mg_none_of KX G z_list;have b_sum:mg "sum" = none:=PySem.W.mg_none_of KX G z_sum;have a2z:mg "range" = none:=PySem.W.mg_none_of KX G z_range;have b_max:mg "max" = none:=PySem.W.mg_none_of KX G z_max;have b_zip:mg "zip" = none:=PySem.W.mg_none_of KX G z_zip;have T_S:Txt_S K (b0e a3c):=⟨(fun d=>match d with | .span=>⟨b2a.pg,b2a.hd,b2a.po,b2a.sa⟩),(fun d=>match d with | .span=>a7w),(fun d=>match d with | .span=>a7c)⟩;refine ⟨PySem.W.fnOf "law" "law" (b0z b1j) (a8f b1j) (a0k b1j) .none kV30 dc30 pm30 an30 cd30 ct30,fun s v=>.of_eq rfl,fun base KB _=>?_⟩;have o_Span_rank:=ok_Span_rank (P:=l.prog) (w:=w) (mg:=mg) (base:=base) T_S a4f F0;have b5p:=b4u (P:=l.prog) (w:=w) (mg:=mg) (base:=base) T_S F1;have o_lowest_bit:=b6m (P:=l.prog) (w:=w) (mg:=mg) (base:=base)  F2;have a6z:∀ d:SK,MCal l.prog w K mg base CX0 1 ((b0e a3c) d) "left_of" ["self","number","which"] (b2b K (b0e a3c) d):=fun d=>match d with | .span=>⟨T_S.cl .span,f1,_,⟨mt_Span_left_of,if_1,F1.kp⟩,(b5p).mono (by decide),b1⟩
 have a5h:=a2b o_lowest_bit (F2.binds (by fail "b1")) F2.kp (PySem.W.mg_of KX G a2);have o_Span_take:=ok_Span_take T_S a6z a5h F3;have b2z:∀ d:SK,MCal l.prog w K mg base CX0 2 ((b0e a3c) d) "take" ["self","number"] (sp_S_take K (b0e a3c) d):=fun d=>match d with | .span=>⟨T_S.cl .span,f3,_,⟨mt_Span_take,if_3,F3.kp⟩,(o_Span_take).mono (by decide),b3⟩
 have b4v:=b2j T_S b2z F4;have o_ones:=ok_ones (P:=l.prog) (w:=w) (mg:=mg) (base:=base)  F5;have c_ones:=a2b o_ones (F5.binds (by fail "b1")) F5.kp (PySem.W.mg_of KX G a5);have b8f:=b5e g_XS g_ZS c_ones F6;have a4w:=a2b b8f (F6.binds (by fail "b2")) F6.kp (PySem.W.mg_of KX G a6);have o_all_beside:=b6x b3z a1r a4w F7;have a6v:∀ d:SK,MCal l.prog w K mg base CX0 1 ((b0e a3c) d) "rank" ["self"] (sp_S_rank K (b0e a3c) d):=fun d=>match d with | .span=>⟨T_S.cl .span,f0,_,⟨mt_Span_rank,if_0,F0.kp⟩,(o_Span_rank).mono (by decide),b0⟩
 have b3b:KCal l.prog w K mg base CX0 3 "Span" ((b0e a3c) .span) ["self","numbers"] (a4k K (b0e a3c)):=⟨f4,_,⟨b2a.mm,mt_Span___init__,if_4,b2a.kc⟩,b4v,b4,PySem.W.mg_of KX G v_Span⟩;have o_are_apart:=ok_are_apart T_S a4f a6v b3b F8;have o_fits:=ok_fits (P:=l.prog) (w:=w) (mg:=mg) (base:=base)  F9;have b1p:=b0x (P:=l.prog) (w:=w) (mg:=mg) (base:=base) a0t b_int b_bool F10;have c_fits:=a2b o_fits (F9.binds (by fail "b2")) F9.kp (PySem.W.mg_of KX G a9);have a0z:=a2b b1p (F10.binds (by fail "b1")) F10.kp (PySem.W.mg_of KX G a10);have b7x:=b5r a4f g_XS g_ZS b3z a0t a6w b7d a8b c_fits a0z F11;have a4q:=a2b b7x (F11.binds (by fail "b2")) F11.kp (PySem.W.mg_of KX G a11);have o_is_row:=ok_is_row a6w a4q F12;have b5f:=b4b (P:=l.prog) (w:=w) (mg:=mg) (base:=base) g_XS g_ZS F13;have a5j:=a2b o_all_beside (F7.binds (by fail "b1")) F7.kp (PySem.W.mg_of KX G a7);have a6s:=a2b o_are_apart (F8.binds (by fail "b1")) F8.kp (PySem.W.mg_of KX G a8);have b2t:=a2b o_is_row (F12.binds (by fail "b2")) F12.kp (PySem.W.mg_of KX G a12);have a1t:=a2b b5f (F13.binds (by fail "b2")) F13.kp (PySem.W.mg_of KX G a13);have b6p:=b5j a4f b3z a0t a5c a5j a6s b_list b2t a1t F14;have b7a:=b5g a1r a0z b0u F15;have o_at_wires:=ok_at_wires (P:=l.prog) (w:=w) (mg:=mg) (base:=base) g_XS g_ZS a8b F16;have a4r:=a2b b6p (F14.binds (by fail "b2")) F14.kp (PySem.W.mg_of KX G a14);have a4t:=a2b b7a (F15.binds (by fail "b2")) F15.kp (PySem.W.mg_of KX G a15);have a8t:=a2b o_at_wires (F16.binds (by fail "b2")) F16.kp (PySem.W.mg_of KX G a16);have o_common:=ok_common T_S a4f a6v b3b a1t a4r a4t b_sum a8t F17;have b7b:=b5d (P:=l.prog) (w:=w) (mg:=mg) (base:=base) a2z F18;have a2c:=a2b b7b (F18.binds (by fail "b2")) F18.kp (PySem.W.mg_of KX G a18);have o__law_deed:=ok__law_deed a2c b_max F19;have o__law_put:=ok__law_put (P:=l.prog) (w:=w) (mg:=mg) (base:=base)  F20;have o__law_moved:=b8c (P:=l.prog) (w:=w) (mg:=mg) (base:=base)  F21;have a2n:=a2b o__law_put (F20.binds (by fail "b4")) F20.kp (PySem.W.mg_of KX G a20);have a5f:=a2b o__law_moved (F21.binds (by fail "b2")) F21.kp (PySem.W.mg_of KX G a21);have o__law_done:=ok__law_done a2n a5f F22;have b5q:=b4y (P:=l.prog) (w:=w) (mg:=mg) (base:=base) a4f F23;have o__law_on:=ok__law_on (P:=l.prog) (w:=w) (mg:=mg) (base:=base)  F24;have b0s:=a2b o__law_on (F24.binds (by fail "b2")) F24.kp (PySem.W.mg_of KX G a24);have b7c:=b5c b0s F25;have o__law_by:=ok__law_by (P:=l.prog) (w:=w) (mg:=mg) (base:=base)  F26;have a8c:=a2b o__law_by (F26.binds (by fail "b2")) F26.kp (PySem.W.mg_of KX G a26);have b5h:=b3t b_zip a8c F27;have a3w:=a2b b5h (F27.binds (by fail "b3")) F27.kp (PySem.W.mg_of KX G a27);have o__law_apart:=b7p a4f a2z a3w F28;have b7j:=b5m (P:=l.prog) (w:=w) (mg:=mg) (base:=base) a1r F29;have b2p:=a2b o_common (F17.binds (by fail "b3")) F17.kp (PySem.W.mg_of KX G a17);have a7g:=a2b o__law_deed (F19.binds (by fail "b2")) F19.kp (PySem.W.mg_of KX G a19);have a6u:=a2b o__law_done (F22.binds (by fail "b2")) F22.kp (PySem.W.mg_of KX G a22);have a2u:=a2b b5q (F23.binds (by fail "b2")) F23.kp (PySem.W.mg_of KX G a23);have a4v:=a2b b7c (F25.binds (by fail "b2")) F25.kp (PySem.W.mg_of KX G a25);have a5k:=a2b o__law_apart (F28.binds (by fail "b1")) F28.kp (PySem.W.mg_of KX G a28);have a3e:=a2b b7j (F29.binds (by fail "b2")) F29.kp (PySem.W.mg_of KX G a29);exact ok_law a4f a0t b_int a2z a2c b2p a7g a6u a2u a4v a5k a3e F30
theorem walk {l:PySem.W.OpenLaw}{q:Program}{loose:List Str}{XP:(Str->Option Value)->Heap->Prop}{YP:World->Heap->Prop}{d:DefRec}{K:Params->PySem.W.Frag}(hn:l.most=some 63)(hdf:d.params.defaults=[])
  (hY:∀ (w:World) (h:Heap),YP w h->(K w.params).In h)
  (F:∀ (w:World) (mg:Str->Option Value) (fa:Addr) (h:Heap),(K w.params).In h->h.Ns mainGlobals mg->mg d.name=some (.ref fa)->
   ∃ fd:FuncData,(∀ (s:Shared) (u:Value),BindsTo s fd ⟨[u],[]⟩ [("_law_script",u)])/\∀ base:Heap,(K w.params).In base->base.Ns mainGlobals mg->a4p l.prog w (K w.params) mg base CX0 8 fa fd ["_law_script"] (sp_law (K w.params))) :
  PySem.W.WalkO q loose XP YP l.row.toRowW d [] (fun f vs=>PySem.call f vs):=
 L2.walk_of (n:=63) (k:=8) (x:="_law_script") (CX:=fun _=>CX0) (sp:=fun w=>sp_law (K w.params)) hn (by decide) hdf ⟨rfl,by decide,by decide⟩ hY F (fun _ _ a ns hl _ hS=>⟨a,ns,rfl,hS,hl,fun _=>rfl⟩) fun _ _ _ _ _ z=>z
end Tw
open PySem PySem.W PyProof.Rows
local macro_rules | `(tactic| fail "ci")=>`(tactic| (show _=_; k_is))
local macro_rules | `(tactic| fail "ck")=>`(tactic| (show _=_; first | k_is | k_exc | kernel_rfl))
local macro_rules | `(tactic| fail "cs")=>`(tactic| (constructor <;> first | k_is | k_exc | kernel_rfl))
local macro_rules | `(tactic| fail "fa")=>`(tactic| (refine' ⟨_,L2.fun_mk ?l9 ?q9 ?k9⟩; (case l9=>k_is); (case q9=>first | k_is | k_exc | kernel_rfl); (case k9=>first | k_is | k_exc | kernel_rfl)))
set_option maxRecDepth 100000 in
set_option maxHeartbeats 0 in
theorem PySem.Challenge.cw_twinwires_k68_whole_lines_of_a_whole_holds : PySem.Challenge.rw_twinwires_k68_whole_lines_of_a_whole.Holds := by
 w_on; o_law
 refine Tw.holds_once Tw.run0 Tw.run1 (by kernel_rfl) (fun _=>by kernel_rfl) (by kernel_rfl) (by rfl) (by rfl) (by rfl) (by rfl) (by first | assumption | decide +kernel) (by decide +kernel) ⟨rfl,rfl,rfl,rfl,rfl,by decide +kernel⟩ ?hw ?hc
 (case hw=>w_witness2)
 k_fill
 refine Tw.walk (l:=PySem.Challenge.rw_twinwires_k68_whole_lines_of_a_whole) rfl rfl (fun w h Y=>PySem.W.kIn_of Y) ?F
 case F=>
  intro w mg fa h KX G hmg;refine' Tw.all_mk KX G hmg ?v_Span ?mt_Span_left_of ?if_1 ?mt_Span_take ?if_3 ?mt_Span_rank ?if_0 ?mt_Span___init__ ?if_4 ?h0 ?h1 ?a2 ?h2 ?h3 ?h4 ?a5 ?h5 ?a6 ?h6 ?a7 ?h7 ?a8 ?h8 ?a9 ?h9 ?a10 ?h10 ?a11 ?h11 ?a12 ?h12 ?a13 ?h13 ?a14 ?h14 ?a15 ?h15 ?a16 ?h16 ?a17 ?h17 ?a18 ?h18 ?a19 ?h19 ?a20 ?h20 ?a21 ?h21 ?a22 ?h22 ?a23 ?h23 ?a24 ?h24 ?a25 ?h25 ?a26 ?h26 ?a27 ?h27 ?a28 ?h28 ?a29 ?h29 ?a30 ?l30 ?q30 ?k30 ?v_XS ?v_ZS ?v_MINUS ?v_NoRow ?x_NoRow ?b4x ?b4t ?b6v ?b6w ?b2a ?a7w ?a7c ?z_len ?z_all ?a9s ?a8h ?z_int ?z_bool ?z_tuple ?z_list ?z_sum ?z_range ?z_max ?z_zip
  (case v_Span | a2 | a5 | a6 | a7 | a8 | a9 | a10 | a11 | a12 | a13 | a14 | a15 | a16 | a17 | a18 | a19 | a20 | a21 | a22 | a23 | a24 | a25 | a26 | a27 | a28 | a29 | a30 | v_XS | v_ZS | v_MINUS | v_NoRow | b4x | b6v | z_len | z_all | a9s | a8h | z_int | z_bool | z_tuple | z_list | z_sum | z_range | z_max | z_zip=>fail "ci")
  (case mt_Span_left_of | if_1 | mt_Span_take | if_3 | mt_Span_rank | if_0 | mt_Span___init__ | if_4=>fail "ck")
  (case h0 | h1 | h2 | h3 | h4 | h5 | h6 | h7 | h8 | h9 | h10 | h11 | h12 | h13 | h14 | h15 | h16 | h17 | h18 | h19 | h20 | h21 | h22 | h23 | h24 | h25 | h26 | h27 | h28 | h29=>fail "fa")
  (case l30 | q30 | k30=>fail "ci")
  (case x_NoRow | b4t | b6w | b2a=>fail "cs")
  (case a7w | a7c=>fail "ck")
