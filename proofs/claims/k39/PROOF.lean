import PyProof.Rows.All
import Wide.All
import OpenK.AllK
import Wide.FinOn
import Lean
import PyProof.EqAt
import PyProof.EqKinds
import PyProof.TupleCall
import Open.Pieces
import KE.KPairComp
import KE.KRevIter
import PyProof.EnumMake
import PyProof.IsRules
import PyProof.AutoListH
import PyProof.ConsumeWalk
import PyProof.Rows.SortWalk
import PyProof.DictValues
import PyProof.DictWalks
import PyProof.Rows.SumAny
import PyProof.AttrMissHeap
import KE.KDictOf
import KE.KDictList
import PyProof.Rows.SortRev
import PyProof.Rows.CallKwBuiltin
import PyProof.ListStr
import PyProof.CollectIter
import PyProof.ListIndex
import PyProof.Dict
import KE.KLam
import PyProof.Rows.TupDisplay
import PySem.Challenge.RW_twinwires_k39_works_looked_through_ahead
set_option maxRecDepth 100000
namespace Tw
open PySem PySem.Calls PySem.W PyProof.Rows
def runG (thr ok:Thread->Bool)(go:SharedT->Thread->Option (SharedT × Thread)):Nat->SharedT->Thread->Option SharedT
 | 0,_,_=>none
 | m + 1,a,x=>match thr x with
  | true=>some a
  | false=>match ok x with
   | false=>none
   | true=>match go a x with
    | some (b,y)=>(match Nat.beq b.toks b.toks with
     | true=>runG thr ok go m b y
     | false=>none)
    | none=>none
theorem runG_top {tb:String->Option Builtin}{p:Program}{w:World}{i:Nat}{an:Option Value}:∀ (m:Nat) (a b:SharedT) (x:Thread),
  runG through (stepOk i an) (stepT (denote tb) p w) m a x=some b->topRun tb p w i an m a.abs x=some b.abs
 | 0,_,_,_,h=>by cases h
 | m + 1,a,b,x,h=>by
  unfold runG at h;unfold topRun
  cases e1:through x with
  | true=>rw [e1] at h; cases h; rfl
  | false=>
   rw [e1] at h
   cases e2:stepOk i an x with
   | false=>rw [e2] at h; cases h
   | true=>
    rw [e2] at h
    cases e3:stepT (denote tb) p w a x with
    | none=>rw [e3] at h; cases h
    | some r=>
     obtain ⟨c,y⟩:=r;rw [e3] at h;rw [stepT_spec e3];dsimp only at h ⊢
     cases e4:Nat.beq c.toks c.toks with
     | false=>rw [e4] at h; cases h
     | true=>rw [e4] at h; exact runG_top m c b y h
def runT (p:Program)(w:World)(i:Nat)(an:Option Value)(m:Nat)(a:SharedT):Option SharedT:=runG through (stepOk i an) (stepT (denote treeTable) p w) m a (topStub p)
noncomputable def bootT (P:Params):BT:=((boot_heap P).objs.toList.foldl (fun (x:BT × Nat) o=>(x.1.ins x.2 o,x.2 + 1)) (BT.nil,0)).1
noncomputable def d7f (n:Nat)(w:World)(os:OsState):SharedT:=⟨bootT w.params,n,(boot_heap w.params).life,Array.mk [],boot_drawn,boot_toks,os⟩
noncomputable def d6e (p q:Program)(lo:List Str)(Xt:Shared->Bool)(bh:Heap)(s:Shared):=
 ((staticsOk (importedModules p.main.body) bh s.heap && namesBound p s.heap && gensDone s && laidKept bh s.heap),openSeen q lo (importedModules p.main.body) Xt true s)
theorem left_once {p q:Program}{lo:List Str}{Xt:Shared->Bool}{β:Type}{Yf:Shared->β}{Ya:World->β}{N M n:Nat}{an:Option Value}(row:String)
  (e:opening p=plainProg p.main.scope.names) (h6:Nat.ble 600 N=true) (fe:∀ s,fenceModules? p s=some s)
  (tr:∀ P,absHeap (bootT P) n (boot_heap P).life=boot_heap P)
  (sz:∀ P,((boot_heap P).isNs mainGlobals,(boot_heap P).objs.size,(boot_heap P).nsMap mainGlobals "__annotations__") = (true,n,an))
  (le:Nat.ble M N=true)
  (run0:∀ (w:World) (os:OsState),(runT p (w.withFollow row false) n an M (d7f n (w.withFollow row false) os)).map (fun s=>(d6e p q lo Xt (boot_heap (w.withFollow row false).params) s.abs,Yf s.abs)) = some ((true,openGood q lo),Ya (w.withFollow row false)))
  (run1:∀ (w:World) (os:OsState),(runT p (w.withFollow row true) n an M (d7f n (w.withFollow row true) os)).map (fun s=>(d6e p q lo Xt (boot_heap (w.withFollow row true).params) s.abs,Yf s.abs)) = some ((true,openGood q lo),Ya (w.withFollow row true))) :
  LeftO p q lo Xt Yf Ya N true:=byRow2 row (P:=fun w=>(openEnds treeTable p w N).map (fun s=>(openSeen q lo (importedModules p.main.body) Xt true s,Yf s)) = some (openGood q lo,Ya w)) (fun w=>one _ (run0 w)) (fun w=>one _ (run1 w))
 where
 one (w:World) (run:∀ os:OsState,(runT p w n an M (d7f n w os)).map (fun s=>(d6e p q lo Xt (boot_heap w.params) s.abs,Yf s.abs)) = some ((true,openGood q lo),Ya w)) :
   (openEnds treeTable p w N).map (fun s=>(openSeen q lo (importedModules p.main.body) Xt true s,Yf s)) = some (openGood q lo,Ya w):=by
  obtain ⟨⟨h,gs,d,k,os⟩,a1,a2⟩:=Option.map_eq_some_iff.mp (boot_open e h6 fe w);simp only [Prod.mk.injEq] at a2;obtain ⟨rfl,rfl,rfl,rfl⟩:=a2;obtain ⟨b,b1,b2⟩:=Option.map_eq_some_iff.mp (run os);simp only [Prod.mk.injEq,d6e] at b2;obtain ⟨⟨l1,l2⟩,l3⟩:=b2
  have r:topRun treeTable p w n an M ⟨boot_heap w.params,Array.mk [],boot_drawn,boot_toks,os⟩ (topStub p) = some b.abs:=by
   have:=runG_top _ _ _ _ b1;rw [<- tr w.params];exact this
  have r:=topRun_mono (N - M) _ _ _ _ r;rw [show M + (N - M) = N by have:=Nat.le_of_ble_eq_true le; omega] at r;have z:=sz w.params;simp only [Prod.mk.injEq] at z;obtain ⟨z1,z2,z3⟩:=z
  have t:topFrom treeTable p w N ⟨boot_heap w.params,Array.mk [],boot_drawn,boot_toks,os⟩ = some b.abs:=by
   unfold topFrom;dsimp only;rw [z1,z2,z3,r];show (match staticsOk (importedModules p.main.body) (boot_heap w.params) b.abs.heap && namesBound p b.abs.heap && gensDone b.abs && laidKept (boot_heap w.params) b.abs.heap with | true=>some b.abs | false=>none) = _;rw [l1]
  unfold openEnds;rw [a1];show (topFrom treeTable p w N _).map _=_;rw [t];exact congrArg some (Prod.ext l2 l3)
theorem runT_self:Tw.runT=Tw.runT:=rfl
theorem lookT_self:@Tw.d6e= @Tw.d6e:=rfl
end Tw
lay_quick Tw.runT Tw.d6e
name_quick runQ for Tw.runT by Tw.runT_self
name_quick lookQ for Tw.d6e by Tw.lookT_self
namespace Tw
open PySem PySem.Calls PySem.W PyProof.Rows
theorem boot_tree (P:Params):absHeap (bootT P) 11 (boot_heap P).life=boot_heap P:=by kernel_rfl
theorem boot_size (P:Params):((boot_heap P).isNs mainGlobals,(boot_heap P).objs.size,(boot_heap P).nsMap mainGlobals "__annotations__") = (true,11,some (.ref 6)):=by kernel_rfl
def RunOk (r:OpenRow)(q:Program)(lo:List Str)(lv:List (Str × WData))(H:Hook)(N:Nat)(row:String)(b:Bool):Prop:=
 ∀ (w:World) (os:OsState),(Fast.runQ r.prog (w.withFollow row b) 11 (some (.ref 6)) N (d7f 11 (w.withFollow row b) os)).map (fun s=>(Fast.lookQ r.prog q lo (fun s=>xlAt q lv s && recOk r.records s) (boot_heap (w.withFollow row b).params) s.abs,H.obs s.abs)) = some ((true,openGood q lo),H.val (w.withFollow row b))
theorem holds_once {r:OpenRow}{q:Program}{lo:List Str}{lv:List (Str × WData)}{d:DefRec}{kwd:List (Str × Expr)}{N:Nat}{H:Hook}{row:String}(run0:RunOk r q lo lv H N row false)(run1:RunOk r q lo lv H N row true)
  (e:opening r.prog=plainProg r.prog.main.scope.names) (fe:∀ s,fenceModules? r.prog s=some s) (h6:Nat.ble 600 N=true)
  (hd:defOf q r.name=some (d,kwd)) (hp:r.prog.theDef r.name=some (d.params,d.body,d.scope)) (hk:kwWritten? d.params.kwonlyargs d.params.kw_defaults=some kwd) (hwr:(!r.writes || r.records.isEmpty) = true)
  (k1:r.wellSaid=true) (ok:(chainsOk q && opensWell r.prog && (frees r.toRowW && r.within.isEmpty)) = true) (hb:r.prog.bare) (hw:r.toRowW.promised) (hc:WalkO q lo (XL q lv) H.says r.toRowW d kwd fun f vs=>PySem.call f vs):r.Holds:=
 holds_open (Xt:=fun s=>xlAt q lv s && recOk r.records s) (N:=N)
  (left_once (M:=N) row e h6 fe boot_tree boot_size (Nat.ble_eq.mpr (Nat.le_refl N)) (by rw [Fast.runQ_eq,Fast.lookQ_eq]; exact run0) (by rw [Fast.runQ_eq,Fast.lookQ_eq]; exact run1))
  H.of H.keeps (fun s z=>xl_of s (Bool.and_eq_true_iff.mp z).1) XL.keeps hd hp hk (fun s z=>recFacts_of (Bool.and_eq_true_iff.mp z).2) hwr k1 ok hb hw hc
end Tw
namespace Tw
open PySem PySem.Calls PySem.W PyProof.Rows
noncomputable def lookA (p q:Program)(bh:Heap)(s:Shared):=
 ((staticsOk (importedModules p.main.body) bh s.heap && namesBound p s.heap && gensDone s && laidKept bh s.heap),seen ((recsOf q).map (·.name)) (ownsOf q) [] { s with gens:=#[] })
noncomputable def lookB (p q:Program)(lo:List Str)(Xt:Shared->Bool)(s:Shared):=
 (s.heap.bltView,(s.heap.keysOk (looseW q lo) ((recsOf q).map (·.name)) ((litsOf q).map (·.1)) ((clssOf q (looseW q lo)).map (·.name)) && s.heap.accountedOkI (importedModules p.main.body) && s.heap.isNs mainGlobals && s.heap.isNs builtinsNs && tablesOk q s.heap && Xt s && (if true then s.gens.size == 0 else !leftWithCleanup s.gens)),tabsOk q s,pinSeenD q (drecsOf q) s)
noncomputable def lookC (q:Program)(lo:List Str)(s:Shared):=
 (plainSeenE q (looseW q lo) s,plainSeenD q lo s,wideSeen q s,clsSeenW q lo s)
theorem lookA_self:@Tw.lookA= @Tw.lookA:=rfl
theorem lookB_self:@Tw.lookB= @Tw.lookB:=rfl
theorem lookC_self:@Tw.lookC= @Tw.lookC:=rfl
theorem map2 {α β γ:Type}{o:Option α}{f:α->β}{g:α->γ}{a:β}{b:γ}(h1:o.map f=some a)(h2:o.map g=some b):o.map (fun s=>(f s,g s)) = some (a,b):=by
 cases o with
 | none=>cases h1
 | some s=>
  cases h1;cases h2;rfl
end Tw
lay_quick Tw.lookA Tw.lookB Tw.lookC
name_quick lookAQ for Tw.lookA by Tw.lookA_self
name_quick lookBQ for Tw.lookB by Tw.lookB_self
name_quick lookCQ for Tw.lookC by Tw.lookC_self
namespace Tw
open PySem PySem.Calls PySem.W PyProof.Rows
def RunA (r:OpenRow)(q:Program)(N:Nat)(row:String)(b:Bool):Prop:=
 ∀ (w:World) (os:OsState),(Fast.runQ r.prog (w.withFollow row b) 11 (some (.ref 6)) N (d7f 11 (w.withFollow row b) os)).map (fun s=>Fast.lookAQ r.prog q (boot_heap (w.withFollow row b).params) s.abs) = some (true,expectedOf q)
def RunB (r:OpenRow)(q:Program)(lo:List Str)(lv:List (Str × WData))(N:Nat)(row:String)(b:Bool):Prop:=
 ∀ (w:World) (os:OsState),(Fast.runQ r.prog (w.withFollow row b) 11 (some (.ref 6)) N (d7f 11 (w.withFollow row b) os)).map (fun s=>Fast.lookBQ r.prog q lo (fun s=>xlAt q lv s && recOk r.records s) s.abs) = some (bltViewBooted,true,true,pinGoodD (drecsOf q))
def RunC (r:OpenRow)(q:Program)(lo:List Str)(N:Nat)(row:String)(b:Bool):Prop:=
 ∀ (w:World) (os:OsState),(Fast.runQ r.prog (w.withFollow row b) 11 (some (.ref 6)) N (d7f 11 (w.withFollow row b) os)).map (fun s=>Fast.lookCQ q lo s.abs) = some (plainGoodE q (looseW q lo),plainGoodD q lo,wideGood q,clsGoodW q lo)
def RunH (r:OpenRow)(H:Hook)(N:Nat)(row:String)(b:Bool):Prop:=
 ∀ (w:World) (os:OsState),(Fast.runQ r.prog (w.withFollow row b) 11 (some (.ref 6)) N (d7f 11 (w.withFollow row b) os)).map (fun s=>H.obs s.abs) = some (H.val (w.withFollow row b))
theorem RunOk.parts {r:OpenRow}{q:Program}{lo:List Str}{lv:List (Str × WData)}{H:Hook}{N:Nat}{row:String}{b:Bool}(a:RunA r q N row b)(b':RunB r q lo lv N row b)(c:RunC r q lo N row b)(h:RunH r H N row b):RunOk r q lo lv H N row b:=fun w os=>by
 have a1:=a w os;have b1:=b' w os;have c1:=c w os;have h1:=h w os;rw [<- Fast.lookAQ_eq] at a1;rw [<- Fast.lookBQ_eq] at b1;rw [<- Fast.lookCQ_eq] at c1;rw [<- Fast.lookQ_eq];have z:=map2 (map2 a1 (map2 b1 c1)) h1
 cases e:Fast.runQ r.prog (w.withFollow row b) 11 (some (.ref 6)) N (d7f 11 (w.withFollow row b) os) with
 | none=>rw [e] at z; cases z
 | some s=>
  rw [e] at z;simp only [Option.map_some,Option.some.injEq,Prod.mk.injEq,lookA,lookB,lookC] at z;obtain ⟨⟨⟨z1,z2⟩,⟨z3,z4,z5,z6⟩,z7,z8,z9,z10⟩,z11⟩:=z;simp only [Option.map_some,d6e,openSeen,openGood];rw [z1,z2,z3,z5,z6,z7,z8,z9,z10,z11];rw [z4]
end Tw
set_option Elab.async false
section
open PySem PySem.W
set_option maxHeartbeats 0
local macro_rules | `(tactic| o_head $_)=>`(tactic| assumption)
theorem Tw.pre:PySem.Challenge.rw_twinwires_k39_works_looked_through_ahead.row.Holds->PySem.Challenge.rw_twinwires_k39_works_looked_through_ahead.row.Holds:=by
 intro _
 k_head
noncomputable def Tw.vw:Program:=PySem.W.view PySem.Challenge.pw_twinwires_k39_works_looked_through_ahead [0,2,3,4,5,6,7,9,10,11,12,13,14,15,16,18,19,20,21,23,24,25,26,27,28,29,30,31,32,33,34,35,37,38,39,40,41,42,43,44,45,46,47,48,49,50,52,53,54,57,58,59,61,62,63,64,66,67,69,70,71,72,73,74,76,78,79,80,81,82,83,84,85,86,87]
noncomputable def Tw.hk:PySem.W.Hook:=PySem.W.kmHook Tw.pre.heap_1 [2,3,15,17,18,20,21,22,24,25,27,28,29,31,32,34,35,36,39,40,41,43,44,46,47,48,50,51,53,54,55,62,63,64,65,68,75,76,77,80,87,88,89,92,99,100,101,104,111,112,113,116,123,124,125,128,135,136,137,140,147,148,149,152,154,155,157,158,159,161,162,164,165,166,168,169,171,172,173,175,176,178,179,180,183,184,185,187,188,190,191,192,194,195,197,198,199,201,202,204,205,206,208,209,211,212,213,215,216,218,219,220,222,223,225,226,227,229,230,232,233,234,237,238,239,241,242,244,245,246,254,256,257,259,260,261,263,264,266,267,268,270,271,273,274,275,277,278,280,281,282,283,284,285,286,289,296,298,299,301,302,303,305,306,308,309,310,312,313,315,316,317,318,319,322,329,331,332,334,335,336,338,339,341,342,343,345,346,348,349,350,351,352,355,362,364,365,367,368,369,371,372,374,375,376,378,379,381,382,383,384,385,388,395,397,398,400,401,402,404,405,407,408,409,411,412,414,415,416,417,418,421,428,430,431,433,434,435,437,438,440,441,442,444,445,447,448,449,450,451,454,461,463,464,466,467,468,470,471,473,474,475,477,478,480,481,482,483,484,487,489,490,492,493,494,496,497,499,500,501,503,504,506,507,508,510,511,513,514,515,517,518,520,521,522,525,526,534,536,537,539,540,541,543,544,546,547,548,550,551,553,554,555,556,558,559,561,562,563,564,565,566,567,570,572,573,575,576,577,579,580,582,583,584,585,587,588,590,591,592,594,595,597,598,599,601,602,604,605,606,608,609,611,612,613,615,616,618,619,620,622,623,625,626,627,634,636,637,639,640,641,643,644,646,647,648,650,651,653,654,655,657,658,660,661,662,664,665,667,668,669,670,671,681,683,684,686,687,688,690,691,693,694,695,697,698,700,701,702,704,705,707,708,709,711,712,714,715,716,718,719,721,722,723,724,725,726,727,730,732,733,735,736,737,740,741,742,745,746,747,749,750,752,753,754,757,758,759,762,763,764,767,768,769,776,779,780,781,783,784,786,787,788,791,792,793,795,796,798,799,800,803,804,805,806,807,810,812,813,815,816,817,819,820,822,823,824,826,827,829,830,831,833,834,836,837,838,840,841,843,844,845,847,848,850,851,852,854,855,857,858,859,861,862,864,865,866,868,869,871,872,873,876,877] (fun _=>by kernel_rfl) [311,443,476,860]
theorem Tw.runA0:Tw.RunA PySem.Challenge.rw_twinwires_k39_works_looked_through_ahead.row Tw.vw 14336 "special-get-raises" false:=fun w os=>by kernel_rfl
theorem Tw.runB0:Tw.RunB PySem.Challenge.rw_twinwires_k39_works_looked_through_ahead.row Tw.vw ["WIRES_BEHIND","run_work"] [] 14336 "special-get-raises" false:=fun w os=>by kernel_rfl
theorem Tw.runC0:Tw.RunC PySem.Challenge.rw_twinwires_k39_works_looked_through_ahead.row Tw.vw ["WIRES_BEHIND","run_work"] 14336 "special-get-raises" false:=fun w os=>by kernel_rfl
theorem Tw.runH0:Tw.RunH PySem.Challenge.rw_twinwires_k39_works_looked_through_ahead.row Tw.hk 14336 "special-get-raises" false:=fun w os=>by kernel_rfl
theorem Tw.run0:Tw.RunOk PySem.Challenge.rw_twinwires_k39_works_looked_through_ahead.row Tw.vw ["WIRES_BEHIND","run_work"] [] Tw.hk 14336 "special-get-raises" false:=Tw.RunOk.parts Tw.runA0 Tw.runB0 Tw.runC0 Tw.runH0
theorem Tw.runA1:Tw.RunA PySem.Challenge.rw_twinwires_k39_works_looked_through_ahead.row Tw.vw 14336 "special-get-raises" true:=fun w os=>by kernel_rfl
theorem Tw.runB1:Tw.RunB PySem.Challenge.rw_twinwires_k39_works_looked_through_ahead.row Tw.vw ["WIRES_BEHIND","run_work"] [] 14336 "special-get-raises" true:=fun w os=>by kernel_rfl
theorem Tw.runC1:Tw.RunC PySem.Challenge.rw_twinwires_k39_works_looked_through_ahead.row Tw.vw ["WIRES_BEHIND","run_work"] 14336 "special-get-raises" true:=fun w os=>by kernel_rfl
theorem Tw.runH1:Tw.RunH PySem.Challenge.rw_twinwires_k39_works_looked_through_ahead.row Tw.hk 14336 "special-get-raises" true:=fun w os=>by kernel_rfl
theorem Tw.run1:Tw.RunOk PySem.Challenge.rw_twinwires_k39_works_looked_through_ahead.row Tw.vw ["WIRES_BEHIND","run_work"] [] Tw.hk 14336 "special-get-raises" true:=Tw.RunOk.parts Tw.runA1 Tw.runB1 Tw.runC1 Tw.runH1
end
set_option linter.all false
namespace L2
open PySem PySem.Spec PyProof.Rows
abbrev Key:=Sum Int Str
def keyIs:Key->Value->Bool
 | .inl k,v=>Value.isInt k v
 | .inr x,v=>Value.isStrOf x v
def keyH (w:World):Key->Int
 | .inl k=>hashInt k
 | .inr x=>hashStr w x
theorem a4q:∀ {k:Key} {v:Value},keyIs k v=true->(∃ i t,k=Sum.inl i/\v=Value.int i t)\/(∃ x t,k=Sum.inr x/\v=Value.str x t)
 | .inl i,v,h=>by
  obtain ⟨t,e⟩:=Value.isInt_shape (k:=i) (v:=v) h;exact .inl ⟨i,t,rfl,e⟩
 | .inr x,v,h=>by
  obtain ⟨t,e⟩:=Value.isStrOf_shape (x:=x) (v:=v) h;exact .inr ⟨x,t,rfl,e⟩
theorem keyIs_int (i:Int)(t:Tok):keyIs (.inl i) (.int i t) = true:=by simp [keyIs,Value.isInt]
theorem keyIs_str (x:Str)(t:Tok):keyIs (.inr x) (.str x t) = true:=by simp [keyIs,Value.isStrOf]
theorem key_ll (a b:Int):decide ((Sum.inl a:Key) = Sum.inl b) = (a == b):=by
 by_cases e:a=b
 ·subst e; simp
 ·have h:¬ (Sum.inl a:Key) = Sum.inl b:=fun q=>e (Sum.inl.inj q);rw [decide_eq_false h];exact (beq_eq_false_iff_ne.mpr e).symm
theorem key_rr (a b:Str):decide ((Sum.inr a:Key) = Sum.inr b) = decide (a=b):=by
 by_cases e:a=b
 ·subst e; simp
 ·have h:¬ (Sum.inr a:Key) = Sum.inr b:=fun q=>e (Sum.inr.inj q);rw [decide_eq_false h,decide_eq_false e]
theorem key_lr (a:Int)(b:Str):decide ((Sum.inl a:Key) = Sum.inr b) = false:=decide_eq_false (fun q=>nomatch q)
theorem key_rl (a:Str)(b:Int):decide ((Sum.inr a:Key) = Sum.inl b) = false:=decide_eq_false (fun q=>nomatch q)
def a2p (prog:Program)(w:World):PySem.KeyKind prog w Key where
 is:=keyIs
 hash:=keyH w
 inj:=fun v a b ha hb=>by
  rcases a4q ha with ⟨i,t,rfl,rfl⟩ | ⟨x,t,rfl,rfl⟩
  ·rcases a4q hb with ⟨j,u,rfl,e⟩ | ⟨y,u,rfl,e⟩
   ·injection e with e1 _; rw [e1]
   ·exact nomatch e
  ·rcases a4q hb with ⟨j,u,rfl,e⟩ | ⟨y,u,rfl,e⟩
   ·exact nomatch e
   ·injection e with e1 _; rw [e1]
 byValue:=fun k v h=>by
  rcases a4q h with ⟨i,t,rfl,rfl⟩ | ⟨x,t,rfl,rfl⟩ <;> rfl
 pyHash:=fun hv h=>by
  rcases a4q hv with ⟨i,t,rfl,rfl⟩ | ⟨x,t,rfl,rfl⟩
  ·exact wpAny_pyHash_int h
  ·exact wpAny_pyHash_str h
 eqBool:=fun hu hv h=>by
  rcases a4q hu with ⟨i,t,rfl,rfl⟩ | ⟨x,t,rfl,rfl⟩
  ·rcases a4q hv with ⟨j,u,rfl,rfl⟩ | ⟨y,u,rfl,rfl⟩
   ·rw [key_ll] at h; exact wpAny_eqBool_int h
   ·rw [key_lr] at h; exact SeqAt.EqAt.int_str i t y u _ _ _ _ h
  ·rcases a4q hv with ⟨j,u,rfl,rfl⟩ | ⟨y,u,rfl,rfl⟩
   ·rw [key_rl] at h; exact SeqAt.EqAt.str_int x t j u _ _ _ _ h
   ·rw [key_rr] at h; exact wpAny_eqBool_str h
 «strs»:=fun k x t v h=>by
  rcases a4q h with ⟨i,u,rfl,e⟩ | ⟨y,u,rfl,e⟩
  ·exact nomatch e
  ·injection e with e1 _
   subst e1;cases v <;> rfl
theorem mixKind_int (prog:Program)(w:World)(i:Int)(t:Tok):(a2p prog w).is (.inl i) (.int i t) = true:=keyIs_int i t
theorem mixKind_str (prog:Program)(w:World)(x:Str)(t:Tok):(a2p prog w).is (.inr x) (.str x t) = true:=keyIs_str x t
end L2
namespace L2
open PySem PySem.Spec PyProof.Rows
variable {a b:Addr}{h:Heap}{o:Obj}
inductive V where
 | non | bl (b:Bool) | int (i:Int) | str (x:Str) | byt (b:Array UInt8) | flt (b:UInt64) | ref (a:Addr) | ty (n:String)
 deriving DecidableEq
def a6j:V->Value->Prop
 | .non,u=>u=Value.none
 | .bl b,u=>u=Value.bool b
 | .int i,u=>∃ t,u=Value.int i t
 | .str x,u=>∃ t,u=Value.str x t
 | .byt b,u=>∃ t,u=Value.bytes b t
 | .flt b,u=>∃ t,u=Value.float b t
 | .ref a,u=>u=Value.ref a
 | .ty n,u=>u=Value.type n
abbrev a6q:List V->List Value->Prop:=Paired a6j
theorem a6q.length {xs:List V}{us:List Value}(r:a6q xs us):xs.length=us.length:=Paired.length r
theorem a6q.get:∀ {xs:List V} {us:List Value} {i:Nat} {x:V},a6q xs us->xs[i]? = some x->∃ u,us[i]? = some u/\a6j x u
 | _,_,_,_,.nil,e=>by simp at e
 | _,_,0,_,.cons r _,e=>by simp at e; subst e; exact ⟨_,rfl,r⟩
 | _,_,i + 1,x,.cons _ t,e=>by
  obtain ⟨u,h1,h2⟩:=a6q.get (i:=i) (x:=x) t (by simpa using e);exact ⟨u,by simpa using h1,h2⟩
theorem a6q.append:∀ {xs ys:List V} {us ws:List Value},a6q xs us->a6q ys ws->a6q (xs ++ ys) (us ++ ws)
 | _,_,_,_,.nil,s=>s
 | _,_,_,_,.cons r t,s=>.cons r (a6q.append t s)
theorem a6q.take:∀ {xs:List V} {us:List Value} (n:Nat),a6q xs us->a6q (xs.take n) (us.take n)
 | _,_,0,_=>.nil
 | _,_,_ + 1,.nil=>.nil
 | _,_,n + 1,.cons r t=>.cons r (a6q.take n t)
theorem a6q.drop:∀ {xs:List V} {us:List Value} (n:Nat),a6q xs us->a6q (xs.drop n) (us.drop n)
 | _,_,0,r=>r
 | _,_,_ + 1,.nil=>.nil
 | _,_,n + 1,.cons _ t=>a6q.drop n t
def RelO:Option V->Option Value->Prop
 | some v,some u=>a6j v u
 | none,none=>True
 | _,_=>False
def KV {κ:Type}:List (κ × V)->List (κ × Value)->Prop:=Paired fun (p:κ × V) (q:κ × Value)=>p.1=q.1/\a6j p.2 q.2
def kV:Key->V
 | .inl i=>.int i
 | .inr x=>.str x
inductive HO where
 /-- a list -/
 | lst (xs:List V)
 /-- a tuple (never changes) -/
 | tup (xs:List V)
 /-- a dict whose keys are ints and texts; one whose keys are tuples of ints and texts (the empty one is both) -/
 | dK (kvs:List (Key × V)) | dT (kvs:List (List Key × V))
 /-- a set of ints: its members,its size -/
 | set (S:Int->Bool) (n:Nat)
 /-- an instance of the class at C,its dict at dx,its attributes -/
 | ins (C dx:Addr) (fs:List (Str × V))
 /-- the dict of the instance at x -/
 | own (x:Addr)
 /-- the dict of an exception -/
 | xd (fs:List (Str × V))
 /-- a bound method,f of x -/
 | met (f x:Addr)
 /-- a range object lo,lo + 1,.. below hi -/
 | rng (lo hi:Int)
 /-- a thing that is known to the object (the script; a dict while a loop walks it): read,never written while it is so -/
 | frz (o:Obj) (u:HO)
 /-- a code object's table -/
 | tbl (ps:Array Value)
 /-- any other thing,by what is true of its one object (a def of one's own: SetO a S n:=HO.ext fun h=>..) -/
 | ext (φ:Heap->Prop)
abbrev Hp:=Addr->Option HO
def upd (H:Hp)(a:Addr)(o:HO):Hp:=fun b=>if b=a then some o else H b
theorem a0c {H:Hp}{o:HO}:upd H a o a=some o:=by unfold upd; rw [if_pos rfl]
theorem a0q {H:Hp}{o:HO}(h:b ≠ a):upd H a o b=H b:=by unfold upd; rw [if_neg h]
theorem upd_upd {H:Hp}{o u:HO}:upd (upd H a o) a u=upd H a u:=by
 funext b; unfold upd; split <;> rfl
theorem c6y {H:Hp}{o u:HO}(h:H a=some o)(h':H b=some u)(d:o ≠ u):a ≠ b:=by
 intro e; subst e; rw [h] at h'; exact d (Option.some.inj h')
theorem a0n {H:Hp}{o:HO}(h:H a=some o)(h':H b=none):a ≠ b:=by
 intro e; subst e; rw [h] at h'; cases h'
section
variable (P:Program)(w:World)
def a6c (H:Hp)(h:Heap)(a:Addr):HO->Prop
 | .lst xs=>xs.length <= sizeLine/\∃ (its:List Value) (n:Nat),a6q xs its/\h.get? a=some { cls:=.type "list",data:=.seq its.toArray n }
 | .tup xs=>xs.length <= sizeLine/\∃ its:List Value,a6q xs its/\IsTup h a its.toArray
 | .dK kvs=>kvs.length <= sizeLine/\(a == sysModules) = false/\∃ vs,KV kvs vs/\h.DictOf (a2p P w) a vs
 | .dT kvs=>kvs.length <= sizeLine/\(a == sysModules) = false/\∃ xs:List (List Key × Addr × Value),
   Paired (fun (p:List Key × V) (q:List Key × Addr × Value)=>p.1=q.1/\H q.2.1=some (.tup (p.1.map kV))/\a6j p.2 q.2.2) kvs xs/\
   ∃ o es ep,h.get? a=some o/\o.ExactDict/\o.data=.dict es ep/\es.toList=xs.map (entryOfKey (tupleKind (a2p P w)))/\(xs.map (·.1)).Nodup
 | .set S n=>h.SetOf (intKind P w) a S n
 | .ins C dx fs=>H dx=some (.own a)/\fs.length <= 1000/\dx ≠ a/\h.get? a=some (PySem.W.instObj C dx)/\
   ∃ mA,h.Ns1 dx mA/\(∀ f,RelO (fs.lookup f) (mA f))/\PySem.Within mA (fs.map (·.1))
 | .own _=>∃ o,h.get? a=some o
 | .xd fs=>∃ mA,h.Ns1 a mA/\∀ f,RelO (fs.lookup f) (mA f)
 | .rng lo hi=>∃ t u v,h.get? a=some { cls:=.type "range",data:=.fields #[.int lo t,.int hi u,.int 1 v] }
 | .frz o u=>h.get? a=some o/\a6c H h a u
 | .tbl ps=>h.get? a=some { cls:=.none,data:=.fields ps }
 | .met f x=>h.get? a=some (PySem.W.methodObj (.ref f) (.ref x))
 | .ext φ=>φ h/\(∃ o,h.get? a=some o)/\∀ h1 h2:Heap,φ h1->(∀ o,h1.get? a=some o->h2.get? a=some o)->φ h2
def HOk (H:Hp)(h:Heap):Prop:=∀ a o,H a=some o->a6c P w H h a o
end
section
variable {P:Program}{w:World}{H H':Hp}{h h':Heap}{a:Addr}{o:HO}
theorem a6c.lt (x:a6c P w H h a o):a < h.objs.size:=by
 cases o with
 | lst xs=>obtain ⟨_,_,_,_,e⟩:=x; exact Heap.lt_size e
 | tup xs=>obtain ⟨_,_,_,p⟩:=x; exact p.lt
 | dK kvs=>obtain ⟨_,_,_,_,o,_,_,e,_⟩:=x; exact Heap.lt_size e
 | dT kvs=>obtain ⟨_,_,_,_,o,_,_,e,_⟩:=x; exact Heap.lt_size e
 | set S n=>obtain ⟨o,_,_,_,e,_⟩:=x; exact Heap.lt_size e
 | ins C dx fs=>obtain ⟨_,_,_,e,_⟩:=x; exact Heap.lt_size e
 | own y=>obtain ⟨_,e⟩:=x; exact Heap.lt_size e
 | xd fs=>obtain ⟨_,⟨_,_,_,e,_⟩,_⟩:=x; exact Heap.lt_size e
 | rng lo hi=>obtain ⟨_,_,_,e⟩:=x; exact Heap.lt_size e
 | frz ob u=>obtain ⟨e,_⟩:=x; exact Heap.lt_size e
 | tbl ps=>exact Heap.lt_size (show h.get? a=some _ from x)
 | met f y=>exact Heap.lt_size (show h.get? a=some _ from x)
 | ext φ=>obtain ⟨_,⟨_,e⟩,_⟩:=x; exact Heap.lt_size e
theorem Paired.mapP {α β:Type}{F G:α->β->Prop}:∀ {l₁:List α} {l₂:List β},Paired F l₁ l₂->(∀ a b,F a b->G a b)->Paired G l₁ l₂
 | _,_,.nil,_=>.nil
 | _,_,.cons r t,f=>.cons (f _ _ r) (Paired.mapP t f)
theorem a6c.stay (x:a6c P w H h a o)(k:∀ b u,(b=a\/H b=some (.own a))->h.get? b=some u->h'.get? b=some u)
  (ho:∀ b,H b=some (.own a)->H' b=some (.own a)) (ht:∀ b xs,H b=some (.tup xs)->H' b=some (.tup xs)):a6c P w H' h' a o:=by
 induction o with
 | lst xs=>obtain ⟨z,its,n,r,e⟩:=x; exact ⟨z,its,n,r,k _ _ (.inl rfl) e⟩
 | tup xs=>obtain ⟨z,its,r,ob,e,c⟩:=x; exact ⟨z,its,r,ob,k _ _ (.inl rfl) e,c⟩
 | dK kvs=>obtain ⟨z,y,vs,r,ob,es,ep,e,c⟩:=x; exact ⟨z,y,vs,r,ob,es,ep,k _ _ (.inl rfl) e,c⟩
 | dT kvs=>
  obtain ⟨z,y,xs,r,ob,es,ep,e,c⟩:=x;exact ⟨z,y,xs,Paired.mapP r fun p q z=>⟨z.1,ht _ _ z.2.1,z.2.2⟩,ob,es,ep,k _ _ (.inl rfl) e,c⟩
 | set S n=>obtain ⟨ob,es,ep,t,e,c⟩:=x; exact ⟨ob,es,ep,t,k _ _ (.inl rfl) e,c⟩
 | ins C dx fs=>
  obtain ⟨d,z,ne,e,mA,⟨od,es,ep,e2,c⟩,r⟩:=x;exact ⟨ho _ d,z,ne,k _ _ (.inl rfl) e,mA,⟨od,es,ep,k _ _ (.inr d) e2,c⟩,r⟩
 | own y=>obtain ⟨ob,e⟩:=x; exact ⟨ob,k _ _ (.inl rfl) e⟩
 | xd fs=>obtain ⟨mA,⟨od,es,ep,e,c⟩,r⟩:=x; exact ⟨mA,⟨od,es,ep,k _ _ (.inl rfl) e,c⟩,r⟩
 | rng lo hi=>obtain ⟨t,u,v,e⟩:=x; exact ⟨t,u,v,k _ _ (.inl rfl) e⟩
 | frz ob u ih=>obtain ⟨e,q⟩:=x; exact ⟨k _ _ (.inl rfl) e,ih q⟩
 | tbl ps=>
  have e:h.get? a=some { cls:=.none,data:=.fields ps }:=x;show h'.get? a=some { cls:=.none,data:=.fields ps };exact k a _ (.inl rfl) e
 | met f y=>
  have e:h.get? a=some (PySem.W.methodObj (.ref f) (.ref y)):=x;show h'.get? a=some (PySem.W.methodObj (.ref f) (.ref y));exact k a _ (.inl rfl) e
 | ext φ=>obtain ⟨p,⟨o,e⟩,st⟩:=x; exact ⟨st _ _ p fun o q=>k _ _ (.inl rfl) q,⟨o,k _ _ (.inl rfl) e⟩,st⟩
theorem HOk.lt (x:HOk P w H h)(e:H a=some o):a < h.objs.size:=(x a o e).lt
theorem HOk.fresh (x:HOk P w H h)(e:h.objs.size <= a):H a=none:=by
 cases q:H a with
 | none=>rfl
 | some u=>exact absurd (Nat.lt_of_lt_of_le (x.lt q) e) (Nat.lt_irrefl _)
theorem HOk.kept (x:HOk P w H h)(k:∀ b u,h.get? b=some u->h'.get? b=some u):HOk P w H h':=fun a o e=>
 (x a o e).stay (fun b u _ q=>k b u q) (fun _ q=>q) fun _ _ q=>q
theorem HOk.laid (x:HOk P w H h)(k:∀ b u,h.get? b=some u->h'.get? b=some u)(hp:h.objs.size <= a)(new:a6c P w (upd H a o) h' a o):HOk P w (upd H a o) h':=fun b u e=>by
 have hn:=x.fresh hp
 by_cases hb:b=a
 ·subst hb; rw [a0c] at e; cases e; exact new
 ·rw [a0q hb] at e;exact (x b u e).stay (fun c v _ q=>k c v q) (fun c q=>by rw [a0q (a0n q hn)]; exact q) fun c xs q=>by rw [a0q (a0n q hn)]; exact q
end
def Rd (H:Hp)(a:Addr)(u:HO):Prop:=H a=some u\/∃ o,H a=some (.frz o u)
theorem Rd.ok {P:Program}{w:World}{H:Hp}{u:HO}(r:Rd H a u)(x:HOk P w H h):a6c P w H h a u:=by
 rcases r with r | ⟨o,r⟩
 ·exact x a u r
 ·obtain ⟨_,q⟩:=x a _ r;exact q
def Mut:Option HO->Prop
 | some (.lst _)=>True
 | some (.dK _)=>True
 | some (.dT _)=>True
 | some (.set _ _)=>True
 | some (.ins _ _ _)=>True
 | some (.ext _)=>True
 | _=>False
section
variable {P:Program}{w:World}{H:Hp}{h h':Heap}{x e:Addr}{o':HO}
theorem HOk.write (ok:HOk P w H h)(mu:Mut (H x))(he:e=x\/H e=some (.own x))(k:∀ b u,b ≠ e->h.get? b=some u->h'.get? b=some u)(heo:∃ u,h'.get? e=some u)
  (new:a6c P w (upd H x o') h' x o'):HOk P w (upd H x o') h':=fun b u q=>by
 have nown:∀ c y,H c=some (.own y)->c ≠ x:=fun c y r z=>by subst z; rw [r] at mu; exact mu
 have ntup:∀ c xs,H c=some (.tup xs)->c ≠ x:=fun c xs r z=>by subst z; rw [r] at mu; exact mu
 by_cases hb:b=x
 ·subst hb; rw [a0c] at q; cases q; exact new
 ·rw [a0q hb] at q
  by_cases hbe:b=e
  ·have q':H b=some (.own x):=by
    rcases he with z | z
    ·exact absurd (hbe.trans z) hb
    ·rw [hbe]; exact z
   rw [q] at q'; cases q';obtain ⟨v,hv⟩:=heo;exact ⟨v,by rw [hbe]; exact hv⟩
  ·refine (ok b u q).stay (fun c v hc r=>k c v ?_ r) (fun c r=>by rw [a0q (nown c b r)]; exact r) fun c xs r=>by rw [a0q (ntup c xs r)]; exact r
   rcases hc with rfl | hc
   ·exact hbe
   ·rintro rfl
    rcases he with z | z
    ·exact nown c b hc z
    ·rw [hc] at z; cases z; exact hb rfl
end
structure Un (fs ex:List Addr)(H H':Hp)(h h':Heap):Prop where
 keep:∀ b o,h.get? b=some o->H b=none->b ∉ fs->b ∉ ex->h'.get? b=some o
 slot:∀ b o,h.get? b=some o->H b=none->b ∈ fs->b ∉ ex->∃ sl,h'.get? b=some { o with slots:=sl }
 free:∀ b o,h.get? b=some o->H b=none->b ∉ ex->H' b=none
 there:∀ b o,h.get? b=some o->b ∉ ex->∃ o',h'.get? b=some o'
 tups:∀ b xs,H b=some (.tup xs)->H' b=some (.tup xs)
 frzs:∀ b o u,H b=some (.frz o u)->H' b=some (.frz o u)
 tbls:∀ b ps,H b=some (.tbl ps)->∃ more,H' b=some (.tbl (ps ++ more))
section
variable {fs fs' ex ex':List Addr}{H H1 H2:Hp}{h h1 h2 h':Heap}{a x e:Addr}{o:HO}
theorem Un.any (u:Un fs ex H H1 h h1){ob:Obj}(q:h.get? b=some ob)(n:H b=none)(hx:b ∉ ex):∃ sl,h1.get? b=some { ob with slots:=sl }:=by
 by_cases hb:b ∈ fs
 ·exact u.slot b ob q n hb hx
 ·exact ⟨ob.slots,u.keep b ob q n hb hx⟩
theorem Un.kept (k:∀ b u,h.get? b=some u->h'.get? b=some u):Un fs ex H H h h':=
 ⟨fun b ob q _ _ _=>k b ob q,fun b ob q _ _ _=>⟨ob.slots,k b ob q⟩,fun _ _ _ n _=>n,fun b ob q _=>⟨ob,k b ob q⟩,fun _ _ q=>q,fun _ _ _ q=>q,fun _ ps q=>⟨#[],by rw [q]; simp⟩⟩
theorem Un.refl:Un fs ex H H h h:=Un.kept fun _ _ q=>q
theorem Un.laid (k:∀ b u,h.get? b=some u->h'.get? b=some u)(hp:h.objs.size <= a)(hn:H a=none):Un fs ex H (upd H a o) h h' where
 keep:=fun b u q _ _ _=>k b u q
 slot:=fun b u q _ _ _=>⟨u.slots,k b u q⟩
 free:=fun b u q n _=>by rw [a0q (Nat.ne_of_lt (Nat.lt_of_lt_of_le (Heap.lt_size q) hp))]; exact n
 there:=fun b u q _=>⟨u,k b u q⟩
 tups:=fun b xs q=>by rw [a0q (a0n q hn)]; exact q
 frzs:=fun b u xs q=>by rw [a0q (a0n q hn)]; exact q
 tbls:=fun b ps q=>⟨#[],by rw [a0q (a0n q hn),q]; simp⟩
theorem Un.write (mu:Mut (H x))(he:e=x\/H e=some (.own x))(k:∀ b u,b ≠ e->h.get? b=some u->h'.get? b=some u)(heo:∃ u,h'.get? e=some u):Un fs ex H (upd H x o) h h':=by
 have hx:∀ b,H b=none->b ≠ x:=fun b n z=>by subst z; rw [n] at mu; exact mu
 have hb:∀ b,H b=none->b ≠ e:=fun b n z=>by
  subst z
  rcases he with r | r
  ·exact hx b n r
  ·rw [n] at r; cases r
 have hm:∀ b u,H b=some u->¬ Mut (some u)->b ≠ x:=fun b u q nm z=>by subst z; rw [q] at mu; exact nm mu
 refine ⟨fun b u q n _ _=>k b u (hb b n) q,fun b u q n _ _=>⟨u.slots,k b u (hb b n) q⟩,fun b u q n _=>by rw [a0q (hx b n)]; exact n,fun b u q _=>?_,
  fun b xs q=>by rw [a0q (hm b _ q fun z=>z)]; exact q,fun b u xs q=>by rw [a0q (hm b _ q fun z=>z)]; exact q,fun b ps q=>⟨#[],by rw [a0q (hm b _ q fun z=>z),q]; simp⟩⟩
 by_cases hbe:b=e
 ·subst hbe; exact heo
 ·exact ⟨u,k b u hbe q⟩
end
def trk (h:Heap)(H:Hp):List Addr:=(List.range h.objs.size).filter fun a=>(H a).isSome
def hidT (h:Heap)(H:Hp):Heap:=PySem.W.hideAll h (trk h H)
theorem hidT_size (h:Heap)(H:Hp):(hidT h H).objs.size=h.objs.size:=PySem.W.hideAll_size _ _
theorem hidT_get {H:Hp}(e:h.get? b=some o)(n:H b=none):(hidT h H).get? b=some o:=
 PySem.W.hideAll_get _ e fun hm=>by
  have q:(H b).isSome=true:=(List.mem_filter.mp hm).2;rw [n] at q; simp at q
theorem of_hidT {H:Hp}(e:(hidT h H).get? b=some o):h.get? b=some o/\H b=none:=by
 have e':h.get? b=some o:=PySem.W.of_hideAll (trk h H) e;refine ⟨e',?_⟩
 cases q:H b with
 | none=>rfl
 | some x=>
  have hm:b ∈ trk h H:=List.mem_filter.mpr ⟨List.mem_range.mpr (Heap.lt_size e'),by simp [q]⟩;have z:(hidT h H).get? b=none:=PySem.W.hideAll_none (trk h H) hm;rw [z] at e; cases e
def allNews (g h:Heap)(L:Addr):List (Addr × Obj):=(List.range h.objs.size).filterMap fun a=>if a=L\/(g.get? a).isSome=true then none else (h.get? a).map fun o=>(a,o)
def b6r (g h:Heap)(L d:Addr):List (Addr × Obj):=(allNews g h L).filter fun p=>decide (p.1 ≠ d)
end L2
namespace L2
open PySem PySem.Spec PyProof.Rows
variable {A:Around}{g':Array GenState}{d':Drawn}{ch:List Addr}{M:Model}{i t':Nat}{x:Str}{v:V}{u:Value}
structure Mod (K:PySem.W.Frag)(mg:Str->Option Value)(base:Heap):Prop where
 kin:K.In base
 glob:base.Ns mainGlobals mg
 blt:∃ mb,base.Ns builtinsNs mb/\∀ x:Str,x ≠ "__name__"->mb x=bootBuiltins x
 nolimit:base.NoLimit
structure Cx where
 prog:Program
 w:World
 K:PySem.W.Frag
 mg:Str->Option Value
 base:Heap
 A:Around
 N:List Str
 s₀:Shared
 H₀:Hp
 env:Env
 outer:List Env
 stack:List Env
 ex:List Addr
 fn:Str->Bool
 calm:Bool
 pn:List (Addr × Obj)
 xe:Value->Shared->Prop
def frs (l:List Env):List Addr:=l.filterMap (·.frame)
abbrev Cx.fs (X:Cx):List Addr:=frs X.outer
def Vis (sc:Scope)(x:Str):Prop:=sc.names.lookup x=some .local\/sc.names.lookup x=some .cell\/sc.names.lookup x=some .free
def Loc (sc:Scope)(x:Str):Prop:=sc.names.lookup x=some .local\/sc.names.lookup x=some .cell
def Look (env:Env)(h:Heap)(m:Str->Option Value)(x:Str)(u:Value):Prop:=
 (env.kindOf x=some .local/\m x=some u)\/((env.kindOf x=some .cell\/env.kindOf x=some .free)/\∃ c,env.cells.lookup x=some c/\h.IsCell c (some u))
structure Cx.Ok (X:Cx):Prop where
 mod:Mod X.K X.mg X.base
 kind:X.env.scope.kind=.function
 glob:X.env.globals=mainGlobals
 blt:X.env.builtins=builtinsNs
 above:X.s₀.heap.objs.size <= X.env.locals
 inj:∀ x y c,X.env.cells.lookup x=some c->X.env.cells.lookup y=some c->x=y
 has:∀ x,(X.env.kindOf x=some .cell\/X.env.kindOf x=some .free)->∃ c,X.env.cells.lookup x=some c
 cab:∀ x c,X.fn x=true->X.env.cells.lookup x=some c->X.s₀.heap.objs.size <= c
 hd:X.calm=true->X.A.handled=none
 frames:X.A.frames=some X.stack
 stk:X.stack=X.outer\/(X.stack=X.env :: X.outer/\X.env.frame=some X.env.locals)
 exf:∀ b ∈ X.ex,b ≠ X.env.locals/\∀ x c,X.env.cells.lookup x=some c->c ≠ b
 bs:∀ b o,X.base.get? b=some o->X.s₀.heap.get? b=some o/\X.H₀ b=none
 bsz:X.base.objs.size <= X.s₀.heap.objs.size
 noex:∀ b o,X.base.get? b=some o->b ∉ X.ex
 exfs:∀ b ∈ X.ex,b ∉ X.fs
 funs:X.s₀.heap.FunFrames X.base X.outer
 frf:∀ b ∈ X.fs,X.H₀ b=none
structure Inv (X:Cx)(pins:List (Addr × Obj))(σ:List (Option V))(H:Hp)(s:Shared):Prop where
 ok:X.Ok
 os:s.os=X.s₀.os
 bare:AllBare s.gens
 base:Un X.fs X.ex X.H₀ H X.s₀.heap s.heap
 loc:∃ m,s.heap.Ns X.env.locals m/\∀ (i:Nat) (x:Str) (v:V),X.N[i]? = some x->σ[i]? = some (some v)->Vis X.env.scope x->∃ u,a6j v u/\Look X.env s.heap m x u
 cell:∀ x c,X.env.cells.lookup x=some c->∃ v,s.heap.IsCell c v
 free:H X.env.locals=none
 freeC:∀ x c,X.env.cells.lookup x=some c->H c=none
 pin:∀ p ∈ X.pn ++ pins,s.heap.get? p.1=some p.2/\H p.1=none/\p.1 ≠ X.env.locals/\p.1 ∉ X.fs/\∀ v,p.2.data ≠ .cell v
 hok:HOk X.prog X.w H s.heap
 len:σ.length=X.N.length
section
variable {X:Cx}{pins:List (Addr × Obj)}{σ:List (Option V)}{H H':Hp}{s:Shared}{h':Heap}
theorem Cx.Ok.nofr (ok:X.Ok){b:Addr}{o:Obj}(e:X.base.get? b=some o):b ∉ X.fs:=fun hb=>by
 have:=(ok.funs.mem hb).1;rw [e] at this; cases this
theorem Inv.bs (I:Inv X pins σ H s):∀ b o,X.base.get? b=some o->s.heap.get? b=some o/\H b=none:=fun b o e=>
 ⟨I.base.keep b o (I.ok.bs b o e).1 (I.ok.bs b o e).2 (I.ok.nofr e) (I.ok.noex b o e),I.base.free b o (I.ok.bs b o e).1 (I.ok.bs b o e).2 (I.ok.noex b o e)⟩
theorem Inv.bk (I:Inv X pins σ H s):∀ b o,X.base.get? b=some o->s.heap.get? b=some o:=fun b o e=>(I.bs b o e).1
theorem Inv.mod (I:Inv X pins σ H s):Mod X.K X.mg X.base:=I.ok.mod
theorem Inv.kIn (I:Inv X pins σ H s):X.K.In s.heap:=I.ok.mod.kin.keeps I.bk
theorem Inv.lt (I:Inv X pins σ H s):X.env.locals < s.heap.objs.size:=let ⟨_,hn,_⟩:=I.loc; hn.lt
theorem Inv.sz (I:Inv X pins σ H s):X.s₀.heap.objs.size <= s.heap.objs.size:=Nat.le_trans I.ok.above (Nat.le_of_lt I.lt)
theorem Inv.nofs (I:Inv X pins σ H s){a:Addr}(h:s.heap.objs.size <= a):a ∉ X.fs:=fun hb=>by
 obtain ⟨_,o,ho,_⟩:=I.ok.funs.mem hb;exact absurd (Nat.lt_of_lt_of_le (Heap.lt_size ho) (Nat.le_trans I.sz h)) (Nat.lt_irrefl _)
theorem Inv.cne (I:Inv X pins σ H s):∀ x c,X.env.cells.lookup x=some c->c ≠ X.env.locals:=fun x c e z=>by
 obtain ⟨v,o,ho,hd⟩:=I.cell x c e;obtain ⟨m,⟨o',es,ep,ho',hd',_⟩,_⟩:=I.loc;rw [z,ho'] at ho; cases ho; rw [hd'] at hd; cases hd
theorem Inv.funs (I:Inv X pins σ H s):s.heap.FunFrames X.base X.outer:=by
 have all:∀ (l:List Env),(∀ b ∈ frs l,b ∈ X.fs)->X.s₀.heap.FunFrames X.base l->s.heap.FunFrames X.base l:=by
  intro l
  induction l with
  | nil=>intro _ _; trivial
  | cons env r ih=>
   intro hs hl;obtain ⟨hk,⟨L,o,hf,hn,ho,hd⟩,hr⟩:=hl;have hL:L ∈ X.fs:=hs L (by unfold frs; rw [List.filterMap_cons,hf]; exact List.mem_cons_self);obtain ⟨sl,e⟩:=I.base.slot L o ho (I.ok.frf L hL) hL fun z=>I.ok.exfs L z hL;exact ⟨hk,⟨L,_,hf,hn,e,hd⟩,ih (fun b hb=>hs b (by unfold frs; rw [List.filterMap_cons,hf]; exact List.mem_cons_of_mem _ hb)) hr⟩
 exact all X.outer (fun _ hb=>hb) I.ok.funs
theorem Inv.stack (I:Inv X pins σ H s):s.heap.FunFrames X.base X.stack:=by
 rcases I.ok.stk with e | ⟨e,hf⟩
 ·rw [e]; exact I.funs
 ·rw [e];obtain ⟨m,hn,_⟩:=I.loc;refine .cons (by rw [I.ok.kind]; decide) hf hn ?_ I.funs;exact Heap.get?_none_of_le (Nat.le_trans I.ok.bsz I.ok.above)
theorem Inv.stkSub (I:Inv X pins σ H s):∀ b ∈ frs X.stack,b ∈ X.env.locals :: X.fs:=fun b hb=>by
 rcases I.ok.stk with e | ⟨e,hf⟩
 ·rw [e] at hb; exact List.mem_cons_of_mem _ hb
 ·rw [e] at hb;unfold frs at hb;rw [List.filterMap_cons,hf] at hb;exact hb
theorem Inv.stkFree (I:Inv X pins σ H s):∀ b ∈ frs X.stack,H b=none:=fun b hb=>by
 rcases List.mem_cons.mp (I.stkSub b hb) with e | hb
 ·rw [e]; exact I.free
 ·obtain ⟨_,o,ho,_⟩:=I.ok.funs.mem hb;exact I.base.free b o ho (I.ok.frf b hb) fun z=>I.ok.exfs b z hb
theorem Inv.step {g':Array GenState}{t':Nat}{d':Drawn}(I:Inv X pins σ H s)
  (hch:∀ b ∈ ch,(b ∈ X.ex\/X.s₀.heap.objs.size <= b)/\b ≠ X.env.locals/\(∀ x c,X.env.cells.lookup x=some c->c ≠ b)/\∀ p ∈ X.pn ++ pins,p.1 ≠ b)
  (keep:∀ b o,b ≠ X.env.locals->b ∉ X.fs->b ∉ ch->s.heap.get? b=some o->H b=none->h'.get? b=some o)
  (slot:∀ b o,b ≠ X.env.locals->b ∈ X.fs->b ∉ ch->s.heap.get? b=some o->H b=none->∃ sl,h'.get? b=some { o with slots:=sl }) (free:∀ b o,b ∉ ch->s.heap.get? b=some o->H b=none->H' b=none)
  (there:∀ b o,b ∉ ch->s.heap.get? b=some o->∃ o',h'.get? b=some o')
  (tups:∀ b xs,H b=some (.tup xs)->H' b=some (.tup xs)) (frzs:∀ b o u,H b=some (.frz o u)->H' b=some (.frz o u)) (tbls:∀ b ps,H b=some (.tbl ps)->∃ more,H' b=some (.tbl (ps ++ more)))
  (ns:∀ m,s.heap.Ns X.env.locals m->h'.Ns X.env.locals m) (hok:HOk X.prog X.w H' h') (hg:AllBare g') :
  Inv X pins σ H' { s with heap:=h',gens:=g',drawn:=d',toks:=t' }:=by
 have neL:∀ b o,X.s₀.heap.get? b=some o->b ≠ X.env.locals:=fun b o e=>Nat.ne_of_lt (Nat.lt_of_lt_of_le (Heap.lt_size e) I.ok.above)
 have neC:∀ b o,X.s₀.heap.get? b=some o->b ∉ X.ex->b ∉ ch:=fun b o e hx hb=>by
  rcases (hch b hb).1 with z | z
  ·exact hx z
  ·exact absurd (Nat.lt_of_lt_of_le (Heap.lt_size e) z) (Nat.lt_irrefl _)
 have cellK:∀ x c,X.env.cells.lookup x=some c->∀ v,s.heap.IsCell c v->h'.IsCell c v:=fun x c e v ⟨o,ho,hd⟩=>by
  have nch:c ∉ ch:=fun z=>(hch c z).2.2.1 x c e rfl
  by_cases hc:c ∈ X.fs
  ·obtain ⟨sl,q⟩:=slot c o (I.cne x c e) hc nch ho (I.freeC x c e);exact ⟨_,q,hd⟩
  ·exact ⟨o,keep c o (I.cne x c e) hc nch ho (I.freeC x c e),hd⟩
 refine ⟨I.ok,I.os,hg,⟨fun b o e n hb hx=>?_,fun b o e n hb hx=>?_,fun b o e n hx=>?_,fun b o e hx=>?_,fun b xs e=>tups b xs (I.base.tups b xs e),fun b o xs e=>frzs b o xs (I.base.frzs b o xs e),fun b ps e=>?_⟩,?_,fun x c e=>?_,?_,fun x c e=>?_,fun p hp=>?_,hok,I.len⟩
 ·exact keep b o (neL b o e) hb (neC b o e hx) (I.base.keep b o e n hb hx) (I.base.free b o e n hx)
 ·obtain ⟨sl,e1⟩:=I.base.slot b o e n hb hx;obtain ⟨sl',e2⟩:=slot b _ (neL b o e) hb (neC b o e hx) e1 (I.base.free b o e n hx);exact ⟨sl',e2⟩
 ·obtain ⟨o',e1⟩:=I.base.there b o e hx;exact free b o' (neC b o e hx) e1 (I.base.free b o e n hx)
 ·obtain ⟨o',e1⟩:=I.base.there b o e hx;exact there b o' (neC b o e hx) e1
 ·obtain ⟨m1,e1⟩:=I.base.tbls b ps e;obtain ⟨m2,e2⟩:=tbls b _ e1;exact ⟨m1 ++ m2,by rw [e2,Array.append_assoc]⟩
 ·obtain ⟨m,hn,hl⟩:=I.loc;refine ⟨m,ns m hn,fun i x v e1 e2 e3=>?_⟩;obtain ⟨u,r,l⟩:=hl i x v e1 e2 e3;refine ⟨u,r,?_⟩
  rcases l with l | ⟨k,c,e,z⟩
  ·exact .inl l
  ·exact .inr ⟨k,c,e,cellK x c e _ z⟩
 ·obtain ⟨v,z⟩:=I.cell x c e;exact ⟨v,cellK x c e v z⟩
 ·obtain ⟨m,⟨o,_,_,ho,_⟩,_⟩:=I.loc;exact free _ o (fun z=>(hch _ z).2.1 rfl) ho I.free
 ·obtain ⟨v,o,ho,hd⟩:=I.cell x c e;exact free c o (fun z=>(hch c z).2.2.1 x c e rfl) ho (I.freeC x c e)
 ·obtain ⟨e,n,ne,nf,d⟩:=I.pin p hp;have nch:p.1 ∉ ch:=fun z=>(hch p.1 z).2.2.2 p hp rfl;exact ⟨keep p.1 p.2 ne nf nch e n,free p.1 p.2 nch e n,ne,nf,d⟩
theorem Inv.un (I:Inv X pins σ H s)(u:Un X.fs [] H H' s.heap h')(hok:HOk X.prog X.w H' h'):Inv X pins σ H' { s with heap:=h',toks:=t' }:=by
 obtain ⟨m,⟨o,es,ep,ho,r⟩,_⟩:=id I.loc;obtain ⟨sl,hL⟩:=u.any ho I.free (by simp)
 exact I.step (g':=s.gens) (d':=s.drawn) (ch:=[]) (fun _ z=>nomatch z) (fun b o _ hb _ e n=>u.keep b o e n hb (by simp)) (fun b o _ hb _ e n=>u.slot b o e n hb (by simp)) (fun b o _ e n=>u.free b o e n (by simp)) (fun b o _ e=>u.there b o e (by simp)) u.tups u.frzs u.tbls (fun m' hm=>by
  obtain ⟨o',es',ep',ho',r'⟩:=hm;rw [ho] at ho'; cases ho'
  exact ⟨_,es',ep',hL,r'⟩) hok I.bare
theorem Inv.call (I:Inv X pins σ H s)(u:Un (frs X.stack) ch H H' s.heap h')(hok:HOk X.prog X.w H' h')(hg:AllBare g')
  (hch:∀ b ∈ ch,(b ∈ X.ex\/X.s₀.heap.objs.size <= b)/\b ≠ X.env.locals/\(∀ x c,X.env.cells.lookup x=some c->c ≠ b)/\∀ p ∈ X.pn ++ pins,p.1 ≠ b) :
  Inv X pins σ H' { s with heap:=h',gens:=g',drawn:=d',toks:=t' }:=by
 obtain ⟨m,⟨o,es,ep,ho,r⟩,_⟩:=id I.loc;obtain ⟨sl,hL⟩:=u.any ho I.free fun z=>(hch _ z).2.1 rfl
 exact I.step (ch:=ch) hch (fun b o hL hb hc e n=>u.keep b o e n (fun z=>(List.mem_cons.mp (I.stkSub b z)).elim hL hb) hc) (fun b o _ _ hc e n=>u.any e n hc) (fun b o hc e n=>u.free b o e n hc) (fun b o hc e=>u.there b o e hc) u.tups u.frzs u.tbls (fun m' hm=>by
  obtain ⟨o',es',ep',ho',r'⟩:=hm;rw [ho] at ho'; cases ho'
  exact ⟨_,es',ep',hL,r'⟩) hok hg
theorem Inv.turned {it:Addr}(I:Inv X pins σ H s)(k:∀ b o,b ≠ it->s.heap.get? b=some o->h'.get? b=some o)(hn:H it=none)(hL:it ≠ X.env.locals)
  (h1:it ∈ X.ex\/X.s₀.heap.objs.size <= it) (h2:∀ x c,X.env.cells.lookup x=some c->c ≠ it) (h3:∀ p ∈ X.pn ++ pins,p.1 ≠ it):Inv X pins σ H { s with heap:=h',toks:=t' }:=by
 have nit:∀ b u,H b=some u->b ≠ it:=fun b u e z=>by rw [z,hn] at e; cases e
 refine I.step (g':=s.gens) (d':=s.drawn) (ch:=[it]) (fun b hb=>?_) (fun b o _ _ hc e _=>k b o (fun z=>hc (by simp [z])) e) (fun b o _ _ hc e _=>⟨o.slots,k b o (fun z=>hc (by simp [z])) e⟩) (fun _ _ _ _ n=>n)
  (fun b o hc e=>⟨o,k b o (fun z=>hc (by simp [z])) e⟩) (fun _ _ e=>e) (fun _ _ _ e=>e) (fun b ps e=>⟨#[],by rw [e]; simp⟩) (fun m hm=>?_) (fun b u e=>?_) I.bare
 ·have e:b=it:=by simpa using hb
  subst e;exact ⟨h1,hL,h2,h3⟩
 ·obtain ⟨o,es,ep,ho,r⟩:=hm;exact ⟨o,es,ep,k _ o (Ne.symm hL) ho,r⟩
 ·refine (I.hok b u e).stay (fun c v hc q=>k c v ?_ q) (fun _ q=>q) fun _ _ q=>q
  rcases hc with z | z
  ·rw [z]; exact nit b u e
  ·exact nit c _ z
theorem Inv.tok (I:Inv X pins σ H s)(t:Nat):Inv X pins σ H { s with toks:=t }:=I.un (h':=s.heap) (t':=t) Un.refl I.hok
theorem Inv.kept {t':Nat}(I:Inv X pins σ H s)(k:∀ b u,s.heap.get? b=some u->h'.get? b=some u):Inv X pins σ H { s with heap:=h',toks:=t' }:=I.un (Un.kept k) (I.hok.kept k)
theorem Inv.laid {a:Addr}{o:HO}{t':Nat}(I:Inv X pins σ H s)(k:∀ b u,s.heap.get? b=some u->h'.get? b=some u)(hp:s.heap.objs.size <= a)(new:a6c X.prog X.w (upd H a o) h' a o) :
  Inv X pins σ (upd H a o) { s with heap:=h',toks:=t' }:=I.un (Un.laid k hp (I.hok.fresh hp)) (I.hok.laid k hp new)
theorem Inv.write {x e:Addr}{o:HO}{t':Nat}(I:Inv X pins σ H s)(mu:Mut (H x))(he:e=x\/H e=some (.own x))(k:∀ b u,b ≠ e->s.heap.get? b=some u->h'.get? b=some u)(heo:∃ u,h'.get? e=some u)
  (new:a6c X.prog X.w (upd H x o) h' x o):Inv X pins σ (upd H x o) { s with heap:=h',toks:=t' }:=I.un (Un.write mu he k heo) (I.hok.write mu he k heo new)
theorem Inv.pins_of {pins':List (Addr × Obj)}(I:Inv X pins σ H s)(h:∀ p ∈ pins',s.heap.get? p.1=some p.2/\H p.1=none/\p.1 ≠ X.env.locals/\p.1 ∉ X.fs/\∀ v,p.2.data ≠ .cell v):Inv X pins' σ H s:=
 ⟨I.ok,I.os,I.bare,I.base,I.loc,I.cell,I.free,I.freeC,fun p hp=>(List.mem_append.mp hp).elim (fun z=>I.pin p (List.mem_append_left _ z)) (h p),I.hok,I.len⟩
theorem d8s {N:List Str}(hN:N.Nodup){j:Nat}(a:N[i]? = some x)(b:N[j]? = some x):i=j:=by
 obtain ⟨h1,e1⟩:=List.getElem?_eq_some_iff.mp a;obtain ⟨h2,e2⟩:=List.getElem?_eq_some_iff.mp b;exact (List.getElem_inj hN).mp (e1.trans e2.symm)
theorem store_ok2 {E:Value->Shared->Prop}{Q:Unit->Shared->Prop}(I:Inv X pins σ H s)(hN:X.N.Nodup)(hi:X.N[i]? = some x)(hx:Loc X.env.scope x)(r:a6j v u)
  (h:∀ s',Inv X pins (σ.set i (some v)) H s'->(∃ a,Heap.SameBut a s.heap s'.heap/\(a=X.env.locals\/X.env.cells.lookup x=some a))->Q () s') (hf:X.fn x=true\/X.env.scope.names.lookup x=some .local:=by first | exact .inl rfl | exact .inr rfl | assumption):wpAny M A (storeName X.env x u) Q E s:=by
 obtain ⟨m,hn,hl⟩:=id I.loc;have hcls:(X.env.scope.kind == .class || (X.env.scope.kind == .module && X.env.locals != X.env.globals)) = false:=by rw [I.ok.kind]; rfl
 have hiσ:i < σ.length:=by rw [I.len]; exact (List.getElem?_eq_some_iff.mp hi).1
 have cne:=I.cne
 have tracked:∀ {a:Addr} {h':Heap},(∃ o,s.heap.get? a=some o/\H a=none)->Heap.SameBut a s.heap h'->HOk X.prog X.w H h':=fun {a h'} ha hs b ob e=>by
  obtain ⟨_,_,hfree⟩:=ha;refine (I.hok b ob e).stay (fun c w' hc q=>(hs.2 c ?_).trans q) (fun _ q=>q) fun _ _ q=>q;rintro rfl
  rcases hc with rfl | hc
  ·rw [hfree] at e; cases e
  ·rw [hfree] at hc; cases hc
 rcases hx with hk | hk
 ·refine wpAny_storeName_local hk hn (fun h' hn' hs=>?_) hcls;obtain ⟨oL,_,_,hoL,_⟩:=id hn;refine h _ ⟨I.ok,I.os,I.bare,⟨fun b o e n hb hx=>?_,fun b o e n hb hx=>?_,I.base.free,fun b o e hx=>?_,I.base.tups,I.base.frzs,I.base.tbls⟩,⟨_,hn',fun j y v' e1 e2 e3=>?_⟩,fun y c e=>?_,I.free,I.freeC,fun p hp=>?_,tracked ⟨oL,hoL,I.free⟩ hs,by simpa using I.len⟩ ⟨_,hs,.inl rfl⟩
  ·exact (hs.2 b (Nat.ne_of_lt (Nat.lt_of_lt_of_le (Heap.lt_size e) I.ok.above))).trans (I.base.keep b o e n hb hx)
  ·obtain ⟨sl,e1⟩:=I.base.slot b o e n hb hx;exact ⟨sl,(hs.2 b (Nat.ne_of_lt (Nat.lt_of_lt_of_le (Heap.lt_size e) I.ok.above))).trans e1⟩
  ·obtain ⟨o',e1⟩:=I.base.there b o e hx;exact ⟨o',(hs.2 b (Nat.ne_of_lt (Nat.lt_of_lt_of_le (Heap.lt_size e) I.ok.above))).trans e1⟩
  ·by_cases hj:j=i
   ·subst hj;rw [hi] at e1; cases e1;rw [List.getElem?_set_self hiσ] at e2;cases e2;exact ⟨u,r,.inl ⟨hk,by simp⟩⟩
   ·rw [List.getElem?_set_ne (Ne.symm hj)] at e2;obtain ⟨u',r',q⟩:=hl j y v' e1 e2 e3;refine ⟨u',r',?_⟩
    rcases q with ⟨k,e⟩ | ⟨k,c,e,z⟩
    ·refine .inl ⟨k,?_⟩;have:y ≠ x:=fun e=>hj (d8s hN e1 (e ▸ hi));simp [this,e]
    ·exact .inr ⟨k,c,e,z.sameBut hs (cne y c e)⟩
  ·obtain ⟨w',z⟩:=I.cell y c e;exact ⟨w',z.sameBut hs (cne y c e)⟩
  ·obtain ⟨e,n,ne,nf,d⟩:=I.pin p hp;exact ⟨(hs.2 p.1 ne).trans e,n,ne,nf,d⟩
 ·have hfn:X.fn x=true:=by
   rcases hf with z | z
   ·exact z
   ·rw [z] at hk; cases hk
  obtain ⟨c,hc⟩:=I.ok.has x (.inl hk);obtain ⟨w',z⟩:=I.cell x c hc;refine wpAny_storeName_cell I.ok.kind hk hc z (fun h' hc' hs=>?_);obtain ⟨oc,hoc,hocd⟩:=id z;refine h { s with heap:=h' } ⟨I.ok,I.os,I.bare,⟨fun b o e n hb hx=>?_,fun b o e n hb hx=>?_,I.base.free,fun b o e hx=>?_,I.base.tups,I.base.frzs,I.base.tbls⟩,⟨m,hn.sameBut hs (Ne.symm (cne x c hc)),fun j y v' e1 e2 e3=>?_⟩,fun y c' e=>?_,I.free,I.freeC,fun p hp=>?_,tracked ⟨oc,hoc,I.freeC x c hc⟩ hs,by simpa using I.len⟩ ⟨c,hs,.inr hc⟩
  ·exact (hs.2 b (Nat.ne_of_lt (Nat.lt_of_lt_of_le (Heap.lt_size e) (I.ok.cab x c hfn hc)))).trans (I.base.keep b o e n hb hx)
  ·obtain ⟨sl,e1⟩:=I.base.slot b o e n hb hx;exact ⟨sl,(hs.2 b (Nat.ne_of_lt (Nat.lt_of_lt_of_le (Heap.lt_size e) (I.ok.cab x c hfn hc)))).trans e1⟩
  ·obtain ⟨o',e1⟩:=I.base.there b o e hx;exact ⟨o',(hs.2 b (Nat.ne_of_lt (Nat.lt_of_lt_of_le (Heap.lt_size e) (I.ok.cab x c hfn hc)))).trans e1⟩
  ·by_cases hj:j=i
   ·subst hj;rw [hi] at e1; cases e1;rw [List.getElem?_set_self hiσ] at e2;cases e2;exact ⟨u,r,.inr ⟨.inl hk,c,hc,hc'⟩⟩
   ·rw [List.getElem?_set_ne (Ne.symm hj)] at e2;obtain ⟨u',r',q⟩:=hl j y v' e1 e2 e3;refine ⟨u',r',?_⟩
    rcases q with q | ⟨k,c',e,z'⟩
    ·exact .inl q
    ·refine .inr ⟨k,c',e,z'.sameBut hs ?_⟩;rintro rfl;exact hj (d8s hN e1 (I.ok.inj _ _ _ e hc ▸ hi))
  ·by_cases hcc:c' = c
   ·subst hcc; exact ⟨_,hc'⟩
   ·obtain ⟨w2,z2⟩:=I.cell y c' e;exact ⟨w2,z2.sameBut hs hcc⟩
  ·obtain ⟨e,n,ne,nf,d⟩:=I.pin p hp;refine ⟨(hs.2 p.1 ?_).trans e,n,ne,nf,d⟩;intro q;rw [q,hoc] at e;have q':oc=p.2:=Option.some.inj e;exact d w' (by rw [<- q']; exact hocd)
theorem d8y {E:Value->Shared->Prop}{Q:Unit->Shared->Prop}(I:Inv X pins σ H s)(hN:X.N.Nodup)(hi:X.N[i]? = some x)(hx:Loc X.env.scope x)(r:a6j v u)
  (h:∀ s',Inv X pins (σ.set i (some v)) H s'->Q () s') (hf:X.fn x=true\/X.env.scope.names.lookup x=some .local:=by first | exact .inl rfl | exact .inr rfl | assumption):wpAny M A (storeName X.env x u) Q E s:=
 store_ok2 I hN hi hx r (fun s' I' _=>h s' I') hf
theorem Inv.call' {s':Shared}(I:Inv X pins σ H s)(ho:s'.os=s.os)(u:Un (frs X.stack) ch H H' s.heap s'.heap)(hok:HOk X.prog X.w H' s'.heap)(hg:AllBare s'.gens)
  (hch:∀ b ∈ ch,(b ∈ X.ex\/X.s₀.heap.objs.size <= b)/\b ≠ X.env.locals/\(∀ x c,X.env.cells.lookup x=some c->c ≠ b)/\∀ p ∈ X.pn ++ pins,p.1 ≠ b):Inv X pins σ H' s':=by
 obtain ⟨h',g',d',t',o'⟩:=s';have e:o' = s.os:=ho;subst e;exact I.call (g':=g') (t':=t') (d':=d') u hok hg hch
end
abbrev XK:=Value->Option Addr->Hp->Prop
abbrev St:=List (Option V)
abbrev VK:=V->Hp->Prop
abbrev TE:=St->Hp->VK->Prop
abbrev TT:=St->Hp->(Bool->Hp->Prop)->Prop
abbrev TA:=St->Hp->(List V->Hp->Prop)->Prop
structure c4b where
 nx:St->Hp->Prop
 rt:VK
 bk:St->Hp->Prop:=fun _ _=>False
 ct:St->Hp->Prop:=fun _ _=>False
abbrev TS:=c4b->St->Hp->Prop
def EP (X:Cx)(pins:List (Addr × Obj))(σ:St)(Q:VK)(u:Value)(s':Shared):Prop:=∃ v H',Inv X pins σ H' s'/\a6j v u/\Q v H'
def TP (X:Cx)(pins:List (Addr × Obj))(σ:St)(Q:Bool->Hp->Prop)(b:Bool)(s':Shared):Prop:=∃ H',Inv X pins σ H' s'/\Q b H'
def AP (X:Cx)(pins:List (Addr × Obj))(σ:St)(Q:List V->Hp->Prop)(us:List Value)(s':Shared):Prop:=∃ vs H',Inv X pins σ H' s'/\a6q vs us/\Q vs H'
def SP (X:Cx)(pins:List (Addr × Obj))(D:c4b)(f:Flow)(s':Shared):Prop:=
 match f with
 | .next=>∃ σ' H',Inv X pins σ' H' s'/\D.nx σ' H'
 | .brk=>∃ σ' H',Inv X pins σ' H' s'/\D.bk σ' H'
 | .cont=>∃ σ' H',Inv X pins σ' H' s'/\D.ct σ' H'
 | .ret u=>∃ v σ' H',Inv X pins σ' H' s'/\a6j v u/\D.rt v H'
def PE (X:Cx)(e:Expr)(t:TE):Prop:=
 ∀ (pins:List (Addr × Obj)) (s:Shared) (σ:St) (H:Hp) (Q:VK),Inv X pins σ H s->t σ H Q->wpAny (model X.prog X.w) X.A (eval e X.env) (EP X pins σ Q) X.xe s
def PT (X:Cx)(e:Expr)(t:TT):Prop:=
 ∀ (pins:List (Addr × Obj)) (s:Shared) (σ:St) (H:Hp) (Q:Bool->Hp->Prop),Inv X pins σ H s->t σ H Q->wpAny (model X.prog X.w) X.A (isTrue e X.env (eval e X.env)) (TP X pins σ Q) X.xe s
def PW (X:Cx)(e:Expr)(t:TT):Prop:=
 ∀ (whole:Sem Value) (pins:List (Addr × Obj)) (s:Shared) (σ:St) (H:Hp) (Q:Bool->Hp->Prop),Inv X pins σ H s->t σ H Q->wpAny (model X.prog X.w) X.A (isTrue e X.env whole) (TP X pins σ Q) X.xe s
theorem PW.pt {X:Cx}{e:Expr}{t:TT}(h:PW X e t):PT X e t:=h _
def PA (X:Cx)(es:List Expr)(t:TA):Prop:=
 ∀ (pos:Pos) (pins:List (Addr × Obj)) (s:Shared) (σ:St) (H:Hp) (Q:List V->Hp->Prop),Inv X pins σ H s->t σ H Q->wpAny (model X.prog X.w) X.A (spliced (backTo pos (starEach es X.env))) (AP X pins σ Q) X.xe s
def PS (X:Cx)(st:Stmt)(t:TS):Prop:=
 ∀ (pins:List (Addr × Obj)) (s:Shared) (σ:St) (H:Hp) (D:c4b),Inv X pins σ H s->t D σ H->wpAny (model X.prog X.w) X.A (exec st X.env) (SP X pins D) X.xe s
def PSs (X:Cx)(st:List Stmt)(t:TS):Prop:=
 ∀ (pins:List (Addr × Obj)) (s:Shared) (σ:St) (H:Hp) (D:c4b),Inv X pins σ H s->t D σ H->wpAny (model X.prog X.w) X.A (execs st X.env) (SP X pins D) X.xe s
theorem thn {α:Type}{t:Sem α}{Q Q':α->Shared->Prop}{E:Value->Shared->Prop}{s:Shared}(h:wpAny M A t Q E s)(hQ:∀ a s,Q a s->Q' a s):wpAny M A t Q' E s:=wpAny_mono h hQ fun _ _ x=>x
end L2
namespace L2
open PySem PySem.Spec PyProof.Rows
variable {H:Hp}{pins:List (Addr × Obj)}{pos:Pos}{s:Shared}{σ:St}{x:Str}{t:TE}{v:V}{u:Value}
section
variable {X:Cx}
def tVar (i:Nat):TE:=fun σ H Q=>∃ v,σ[i]? = some (some v)/\Q v H
def tC (v:V):TE:=fun _ H Q=>Q v H
theorem pe_var {i:Nat}(hN:X.N[i]? = some x)(hv:Vis X.env.scope x)(hd:(x == ("__debug__":Str)) = false:=by decide)(hcd:(x == ("__classdict__":Str)) = false:=by decide):PE X (.Name x pos) (tVar i):=by
 intro pins s σ H Q I h;obtain ⟨v,e,h⟩:=h;obtain ⟨m,hn,hl⟩:=I.loc;obtain ⟨u,r,l⟩:=hl i x v hN e hv;have fin:EP X pins σ Q u s:=⟨v,H,I,r,h⟩
 rcases l with ⟨hk,hm⟩ | ⟨hk,c,hc,hcell⟩
 ·exact wpAny_Name (wpAny_loadName_local I.ok.kind hk hn hm fin) hd
 ·rcases hk with hk | hk
  ·exact wpAny_Name (wpAny_loadName_cell I.ok.kind hk hc hcell fin) hd
  ·exact wpAny_Name (wpAny_loadName_free I.ok.kind hk hc hcell fin hcd) hd
theorem a0p {i j pos}:PE X (.Constant (.int i) j pos) (tC (.int i)):=fun _ _ _ H _ I h=>wpAny_Constant_int ⟨.int i,H,I.tok _,⟨_,rfl⟩,h⟩
theorem pe_bl {b j pos}:PE X (.Constant (.bool b) j pos) (tC (.bl b)):=fun _ _ _ H _ I h=>Constant_bool ⟨.bl b,H,I,rfl,h⟩
theorem c0f {j pos}:PE X (.Constant .none j pos) (tC .non):=fun _ _ _ H _ I h=>Constant_none ⟨.non,H,I,rfl,h⟩
theorem a1c {x j pos}:PE X (.Constant (.str x) j pos) (tC (.str x)):=fun _ _ _ H _ I h=>Calls.Constant_str ⟨.str x,H,I.tok _,⟨_,rfl⟩,h⟩
def Gl (X:Cx)(x:Str):Prop:=X.env.kindOf x=some .globalImplicit
theorem b7j {E:Value->Shared->Prop}{Q:Value->Shared->Prop}(I:Inv X pins σ H s)(hg:Gl X x)(hm:X.mg x=some u)(h:Q u s)
  (hd:(x == ("__debug__":Str)) = false:=by decide):wpAny (model X.prog X.w) X.A (eval (.Name x pos) X.env) Q E s:=
 Calls.Name_function_global I.ok.kind hg (Calls.loadGlobal_global (by rw [I.ok.glob]; exact I.mod.glob.keeps I.bk) hm h) hd
theorem ld_blt {E:Value->Shared->Prop}{Q:Value->Shared->Prop}(I:Inv X pins σ H s)(hg:Gl X x)(hm:X.mg x=none)(hv:bootBuiltins x=some u)(h:Q u s)
  (hn:x ≠ "__name__":=by decide) (hd:(x == ("__debug__":Str)) = false:=by decide):wpAny (model X.prog X.w) X.A (eval (.Name x pos) X.env) Q E s:=by
 obtain ⟨mb,h1,h2⟩:=I.mod.blt;exact Calls.Name_function_global I.ok.kind hg (Calls.loadGlobal_builtin (by rw [I.ok.glob]; exact I.mod.glob.keeps I.bk) hm (by rw [I.ok.blt]; exact h1.keeps I.bk) ((h2 x hn).trans hv) h) hd
theorem d8d (hg:Gl X x)(hm:X.mg x=some u)(r:a6j v u)(hd:(x == ("__debug__":Str)) = false:=by decide):PE X (.Name x pos) (tC v):=
 fun _ _ _ H _ I h=>b7j I hg hm ⟨v,H,I,r,h⟩ hd
theorem pe_bltn (hg:Gl X x)(hm:X.mg x=none)(hv:bootBuiltins x=some u)(r:a6j v u)(hn:x ≠ "__name__":=by decide)(hd:(x == ("__debug__":Str)) = false:=by decide):PE X (.Name x pos) (tC v):=
 fun _ _ _ H _ I h=>ld_blt I hg hm hv ⟨v,H,I,r,h⟩ hn hd
variable {a b:Expr}{ta tb:TE}{pos:Pos}
def tB (t:TE):TT:=fun σ H Q=>t σ H fun x H1=>∃ c,x=.bl c/\Q c H1
theorem a5u {e:Expr}(h:PE X e t)(he:∀ whole,isTrue e X.env whole=(do let v <- whole; standAt e.pos; holding [v] (truthy v)):=by intro _; rfl):PT X e (tB t):=by
 intro pins s σ H Q I hw;refine isTrue_plain (thn (h pins s σ H _ I hw) fun v s1 ⟨x,H1,I1,r1,q1⟩=>?_) (he _);obtain ⟨d,rfl,q⟩:=q1;cases r1;exact wpAny_truthy_bool ⟨H1,I1,q⟩
variable {tA tB':TT}{b6r:List Expr}
def tAnd (t u:TT):TT:=fun σ H Q=>t σ H fun c H1=>if c=true then u σ H1 Q else Q false H1
def tOr (t u:TT):TT:=fun σ H Q=>t σ H fun c H1=>if c=true then Q true H1 else u σ H1 Q
def tNot (t:TT):TT:=fun σ H Q=>t σ H fun c H1=>Q (!c) H1
theorem pw_and1 (ha:PT X a tA):PW X (.BoolOp .And [a] pos) tA:=by
 intro wh pins s σ H Q I h;refine isTrue_and (thn (ha pins s σ H Q I h) fun c s1 e=>?_)
 cases c with
 | true=>exact isTrue_and_nil e
 | false=>exact e
theorem b6n (ha:PT X a tA):PW X (.BoolOp .Or [a] pos) tA:=by
 intro wh pins s σ H Q I h;refine isTrue_or (thn (ha pins s σ H Q I h) fun c s1 e=>?_)
 cases c with
 | false=>exact isTrue_or_nil e
 | true=>exact e
theorem pw_and (ha:PT X a tA)(hb:PW X (.BoolOp .And (b :: b6r) pos) tB'):PW X (.BoolOp .And (a :: b :: b6r) pos) (tAnd tA tB'):=by
 intro wh pins s σ H Q I h;refine isTrue_and (thn (ha pins s σ H _ I h) fun c s1 ⟨H1,I1,q1⟩=>?_)
 cases c with
 | true=>exact hb wh pins s1 σ H1 Q I1 q1
 | false=>exact ⟨H1,I1,q1⟩
theorem c1q (ha:PT X a tA)(hb:PW X (.BoolOp .Or (b :: b6r) pos) tB'):PW X (.BoolOp .Or (a :: b :: b6r) pos) (tOr tA tB'):=by
 intro wh pins s σ H Q I h;refine isTrue_or (thn (ha pins s σ H _ I h) fun c s1 ⟨H1,I1,q1⟩=>?_)
 cases c with
 | true=>exact ⟨H1,I1,q1⟩
 | false=>exact hb wh pins s1 σ H1 Q I1 q1
theorem b0t (ha:PT X a tA):PT X (.UnaryOp .Not a pos) (tNot tA):=by
 intro pins s σ H Q I h;exact isTrue_not (ha pins s σ H (fun c H1=>Q (!c) H1) I h)
def tAndV (ta tb:TE):TE:=fun σ H Q=>ta σ H fun x H1=>∃ c,x=.bl c/\if c=true then tb σ H1 Q else Q (.bl false) H1
def tNotV (ta:TE):TE:=fun σ H Q=>ta σ H fun x H1=>∃ c,x=.bl c/\Q (.bl (!c)) H1
theorem pe_one {op}(h:PE X a t):PE X (.BoolOp op [a] pos) t:=fun pins s σ H Q I hw=>BoolOp_one (h pins s σ H Q I hw)
theorem d4q (ha:PE X a ta)(hb:PE X (.BoolOp .And (b :: b6r) pos) tb):PE X (.BoolOp .And (a :: b :: b6r) pos) (tAndV ta tb):=by
 intro pins s σ H Q I h;refine BoolOp_and (thn (ha pins s σ H _ I h) fun v s1 ⟨x,H1,I1,r1,q1⟩=>?_);obtain ⟨c,rfl,q1⟩:=q1;cases r1;refine wpAny_truthy_bool ?_
 cases c with
 | true=>exact hb pins s1 σ H1 Q I1 q1
 | false=>exact ⟨.bl false,H1,I1,rfl,q1⟩
theorem pe_not (ha:PE X a ta):PE X (.UnaryOp .Not a pos) (tNotV ta):=by
 intro pins s σ H Q I h;refine UnaryOp_ (thn (ha pins s σ H _ I h) fun v s1 ⟨x,H1,I1,r1,q1⟩=>?_);obtain ⟨c,rfl,q1⟩:=q1;cases r1;exact not_of (wpAny_truthy_bool ⟨.bl (!c),H1,I1,rfl,q1⟩)
def tIf (t:TT)(ta tb:TE):TE:=fun σ H Q=>t σ H fun c H1=>if c=true then ta σ H1 Q else tb σ H1 Q
theorem c3g {c:Expr}(hc:PT X c tA)(ha:PE X a ta)(hb:PE X b tb):PE X (.IfExp c a b pos) (tIf tA ta tb):=by
 intro pins s σ H Q I h;refine wpAny_IfExp (thn (hc pins s σ H _ I h) fun d s1 ⟨H1,I1,q1⟩=>?_)
 cases d with
 | true=>exact ha pins s1 σ H1 Q I1 q1
 | false=>exact hb pins s1 σ H1 Q I1 q1
end
end L2
namespace L2
open PySem PySem.Spec PyProof.Rows
variable {X:Cx}{c e tg:Expr}{H:Hp}{pins:List (Addr × Obj)}{es:List Expr}{i:Nat}{P:Program}{K:PySem.W.Frag}{s:Shared}{σ:St}{x:Str}{te:TE}{tc:TT}{u:Value}{w:World}
def SqL (K:PySem.W.Frag)(H:Hp)(a:Addr)(xs:List V):Prop:=
 Rd H a (.lst xs)\/
  ∃ (o:Obj) (its:Array Value) (n:Nat),K.lookup a=some o/\o.cls=.type "list"/\o.dict=none/\o.data=.seq its n/\its.size <= sizeLine/\a6q xs its.toList
def SqT (K:PySem.W.Frag)(H:Hp)(a:Addr)(xs:List V):Prop:=
 Rd H a (.tup xs)\/
  ∃ (o:Obj) (its:Array Value) (n:Nat),K.lookup a=some o/\o.cls=.type "tuple"/\o.data=.seq its n/\its.size <= sizeLine/\a6q xs its.toList
def absV:Value->Option V
 | .none=>some .non
 | .bool b=>some (.bl b)
 | .int i _=>some (.int i)
 | .str x _=>some (.str x)
 | .bytes b _=>some (.byt b)
 | .float b _=>some (.flt b)
 | .ref a=>some (.ref a)
 | .type n=>some (.ty n)
 | _=>none
theorem a6j.abs {x:V}(r:a6j x u):absV u=some x:=by
 cases x with
 | non=>cases r; rfl
 | bl _=>cases r; rfl
 | int _=>obtain ⟨t,rfl⟩:=r; rfl
 | str _=>obtain ⟨t,rfl⟩:=r; rfl
 | byt _=>obtain ⟨t,rfl⟩:=r; rfl
 | flt _=>obtain ⟨t,rfl⟩:=r; rfl
 | ref _=>cases r; rfl
 | ty _=>cases r; rfl
theorem a6j.inj {x y:V}{u:Value}(r:a6j x u)(q:a6j y u):x=y:=Option.some.inj (r.abs.symm.trans q.abs)
theorem a6q.inj:∀ {xs ys:List V} {us:List Value},a6q xs us->a6q ys us->xs=ys
 | _,_,_,.nil,.nil=>rfl
 | _,_,_,.cons r t,.cons r' t'=>by rw [r.inj r',a6q.inj t t']
section
variable {X:Cx}{pins:List (Addr × Obj)}{σ:St}{H:Hp}{s:Shared}{a:Addr}{xs ys:List V}
theorem SqL.of (h:H a=some (.lst xs)):SqL K H a xs:=.inl (.inl h)
theorem SqT.of (h:H a=some (.tup xs)):SqT K H a xs:=.inl (.inl h)
theorem Inv.list (I:Inv X pins σ H s)(h:SqL X.K H a xs):∃ its:List Value,a6q xs its/\PlainL s.heap a its.toArray/\xs.length <= sizeLine:=by
 rcases h with h | ⟨o,its,n,hk,hc,hd,hs,hz,r⟩
 ·obtain ⟨z,its,n,r,e⟩:=h.ok I.hok;exact ⟨its,r,⟨_,n,e,rfl,rfl,rfl⟩,z⟩
 ·refine ⟨its.toList,r,⟨o,n,I.kIn a o hk,hc,hd,by simpa using hs⟩,?_⟩;have e:=r.length;simp only [Array.length_toList] at e;omega
theorem Inv.tuple (I:Inv X pins σ H s)(h:SqT X.K H a xs):∃ its:List Value,a6q xs its/\IsTup s.heap a its.toArray/\xs.length <= sizeLine:=by
 rcases h with h | ⟨o,its,n,hk,hc,hs,hz,r⟩
 ·obtain ⟨z,its,r,p⟩:=h.ok I.hok;exact ⟨its,r,p,z⟩
 ·refine ⟨its.toList,r,⟨o,I.kIn a o hk,hc,n,by simpa using hs⟩,?_⟩;have e:=r.length;simp only [Array.length_toList] at e;omega
theorem Inv.list_inj (I:Inv X pins σ H s)(h:SqL X.K H a xs)(h':SqL X.K H a ys):xs=ys:=by
 obtain ⟨its,r,⟨o,n,e,_,_,d⟩,_⟩:=I.list h;obtain ⟨its',r',⟨o',n',e',_,_,d'⟩,_⟩:=I.list h';rw [e] at e'; cases e';rw [d] at d'
 injection d' with d1 _
 have:its=its':=by simpa using congrArg Array.toList d1
 subst this;exact r.inj r'
theorem Inv.tuple_inj (I:Inv X pins σ H s)(h:SqT X.K H a xs)(h':SqT X.K H a ys):xs=ys:=by
 obtain ⟨its,r,⟨o,e,_,n,d⟩,_⟩:=I.tuple h;obtain ⟨its',r',⟨o',e',_,n',d'⟩,_⟩:=I.tuple h';rw [e] at e'; cases e';rw [d] at d'
 injection d' with d1 _
 have:its=its':=by simpa using congrArg Array.toList d1
 subst this;exact r.inj r'
end
abbrev Cx.wish (X:Cx)(E:Value->Shared->Prop):Cx:={ X with xe:=E }
abbrev Cx.nox (X:Cx):Cx:=X.wish fun _ _=>False
theorem Cx.Ok.wish {X:Cx}(ok:X.Ok)(E:Value->Shared->Prop):(X.wish E).Ok:=
 ⟨ok.mod,ok.kind,ok.glob,ok.blt,ok.above,ok.inj,ok.has,ok.cab,ok.hd,ok.frames,ok.stk,ok.exf,ok.bs,ok.bsz,ok.noex,ok.exfs,ok.funs,ok.frf⟩
theorem Cx.Ok.unwish {E:Value->Shared->Prop}(ok:(X.wish E).Ok):X.Ok:=
 ⟨ok.mod,ok.kind,ok.glob,ok.blt,ok.above,ok.inj,ok.has,ok.cab,ok.hd,ok.frames,ok.stk,ok.exf,ok.bs,ok.bsz,ok.noex,ok.exfs,ok.funs,ok.frf⟩
section
variable {X:Cx}{pins:List (Addr × Obj)}{σ:St}{H:Hp}{s:Shared}{E:Value->Shared->Prop}
theorem Inv.wish (I:Inv X pins σ H s)(E:Value->Shared->Prop):Inv (X.wish E) pins σ H s:=⟨I.ok.wish E,I.os,I.bare,I.base,I.loc,I.cell,I.free,I.freeC,I.pin,I.hok,I.len⟩
theorem Inv.unwish (I:Inv (X.wish E) pins σ H s):Inv X pins σ H s:=⟨I.ok.unwish,I.os,I.bare,I.base,I.loc,I.cell,I.free,I.freeC,I.pin,I.hok,I.len⟩
theorem SP.unwish {D:c4b}{f:Flow}{s':Shared}(h:SP (X.wish E) pins D f s'):SP X pins D f s':=by
 cases f with
 | next=>obtain ⟨σ',H',I,q⟩:=h; exact ⟨σ',H',I.unwish,q⟩
 | brk=>obtain ⟨σ',H',I,q⟩:=h; exact ⟨σ',H',I.unwish,q⟩
 | cont=>obtain ⟨σ',H',I,q⟩:=h; exact ⟨σ',H',I.unwish,q⟩
 | ret u=>obtain ⟨v,σ',H',I,r,q⟩:=h; exact ⟨v,σ',H',I.unwish,r,q⟩
theorem PSs.nox {st:List Stmt}{t:TS}(h:PSs X.nox st t):PSs X st t:=fun pins s σ H D I hw=>
 wpAny_mono (h pins s σ H D (I.wish _) hw) (fun _ _ q=>q.unwish) fun _ _ z=>False.elim z
end
section
variable {X:Cx}{st:Stmt}{b6r:List Stmt}{t u:TS}{e:Expr}{te:TE}{pos:Pos}
def tNext:TS:=fun D σ H=>D.nx σ H
def tSeq (t u:TS):TS:=fun D σ H=>t { D with nx:=u D } σ H
theorem a1m:PSs X [] tNext:=fun _ _ σ H _ I h=>wpAny_execs_nil ⟨σ,H,I,h⟩
theorem a0e (h1:PS X st t)(h2:PSs X b6r u):PSs X (st :: b6r) (tSeq t u):=by
 intro pins s σ H D I h;refine wpAny_execs_cons (thn (h1 pins s σ H { D with nx:=u D } I h) fun f s1 q=>?_)
 cases f with
 | next=>
  obtain ⟨σ',H',I',q⟩:=q;exact h2 pins s1 σ' H' D I' q
 | ret v=>exact q
 | brk=>exact q
 | cont=>exact q
theorem a0k (h1:PS X st t):PSs X [st] t:=by
 intro pins s σ H D I h;refine wpAny_execs_cons (thn (h1 pins s σ H D I h) fun f s1 q=>?_)
 cases f with
 | next=>exact wpAny_execs_nil q
 | ret v=>exact q
 | brk=>exact q
 | cont=>exact q
theorem Inv.quiet (I:Inv X pins σ H s):interactive X.env=false:=by simp [interactive,I.ok.kind]
def tDrop (te:TE):TS:=fun D σ H=>te σ H fun _ H1=>D.nx σ H1
theorem a3f (he:PE X e te)(hs:swapsWith e none pos.line X.env=pure false:=by rfl):PS X (.Expr e pos) (tDrop te):=by
 intro pins s σ H D I h;exact wpAny_Expr_any (thn (he pins s σ H _ I h) fun v s1 ⟨x,H1,I1,r1,q1⟩=>⟨σ,H1,I1,q1⟩) I.quiet hs
def tRet (te:TE):TS:=fun D σ H=>te σ H D.rt
theorem a0v (he:PE X e te):PS X (.Return (some e) pos) (tRet te):=by
 intro pins s σ H D I h;exact wpAny_Return_some (thn (he pins s σ H _ I h) fun v s1 ⟨x,H1,I1,r1,q1⟩=>⟨x,σ,H1,I1,r1,q1⟩)
def tIfS (c:TT)(t u:TS):TS:=fun D σ H=>c σ H fun b H1=>if b=true then t D σ H1 else u D σ H1
theorem a3s {a b:List Stmt}(hc:PT X c tc)(ha:PSs X a t)(hb:PSs X b u):PS X (.If c a b pos) (tIfS tc t u):=by
 intro pins s σ H D I h;refine wpAny_If (thn (hc pins s σ H _ I h) fun d s1 ⟨H1,I1,q1⟩=>?_)
 cases d with
 | true=>exact ha pins s1 σ H1 D I1 q1
 | false=>exact hb pins s1 σ H1 D I1 q1
end
abbrev TG:=V->St->Hp->(St->Hp->Prop)->Prop
abbrev TGs:=List V->St->Hp->(St->Hp->Prop)->Prop
def PG (X:Cx)(target:Expr)(t:TG):Prop:=
 ∀ (pins:List (Addr × Obj)) (s:Shared) (σ:St) (H:Hp) (v:V) (u:Value) (Q:St->Hp->Prop),Inv X pins σ H s->a6j v u->t v σ H Q->
  wpAny (model X.prog X.w) X.A (assign target X.env u) (fun _ s'=>∃ σ' H',Inv X pins σ' H' s'/\Q σ' H') X.xe s
def PGs (X:Cx)(ts:List Expr)(t:TGs):Prop:=
 ∀ (pins:List (Addr × Obj)) (s:Shared) (σ:St) (H:Hp) (vs:List V) (us:List Value) (Q:St->Hp->Prop),Inv X pins σ H s->a6q vs us->t vs σ H Q->
  wpAny (model X.prog X.w) X.A (assignInOrder ((assignEach ts X.env).map (·.2)) us) (fun _ s'=>∃ σ' H',Inv X pins σ' H' s'/\Q σ' H') X.xe s
section
variable {X:Cx}{pos:Pos}
def gName (i:Nat):TG:=fun v σ H Q=>Q (σ.set i (some v)) H
theorem a2r (hN:X.N.Nodup)(hi:X.N[i]? = some x)(hx:Loc X.env.scope x)(hf:X.fn x=true\/X.env.scope.names.lookup x=some .local:=by first | exact .inl rfl | exact .inr rfl | assumption):PG X (.Name x pos) (gName i):=by
 intro pins s σ H v u Q I r h;exact wpAny_assign_Name (d8y I hN hi hx r (fun s' I'=>⟨_,H,I',h⟩) hf)
def gNil:TGs:=fun vs σ H Q=>vs=[]/\Q σ H
def gCons (t:TG)(u:TGs):TGs:=fun vs σ H Q=>∃ v r,vs=v :: r/\t v σ H fun σ' H'=>u r σ' H' Q
theorem b4d:PGs X [] gNil:=by
 intro pins s σ H vs us Q I r h;obtain ⟨e,h⟩:=h;subst e;cases r;exact assignInOrder_nil ⟨σ,H,I,h⟩
theorem a2x {t:TG}{u:TGs}(h1:PG X e t)(h2:PGs X es u)
  (hs:(assignEach (e :: es) X.env).map (·.2) = assign e X.env :: (assignEach es X.env).map (·.2):=by rfl):PGs X (e :: es) (gCons t u):=by
 intro pins s σ H vs us Q I r h;obtain ⟨v,vr,e1,h⟩:=h;subst e1
 cases r with
 | cons r rr=>
  rw [hs];refine assignInOrder_cons (thn (h1 pins s σ H _ _ _ I r h) fun _ s1 ⟨σ1,H1,I1,q1⟩=>?_);exact h2 pins s1 σ1 H1 _ _ Q I1 rr q1
def gTup (K:PySem.W.Frag)(n:Nat)(t:TGs):TG:=fun v σ H Q=>∃ a xs,v=.ref a/\SqT K H a xs/\xs.length=n/\t xs σ H Q
theorem c0h {k:Nat}{t:TGs}{n:Nat}(hc:X.calm=true)(h:PGs X es t)
  (hn:(assignEach es X.env).length=n:=by rfl) (hst:(assignEach es X.env).findIdx? (·.1) = none:=by rfl):PG X (.Tuple es k pos) (gTup X.K n t):=by
 intro pins s σ H v u Q I r hw;obtain ⟨a,xs,e1,hq,hl,hw⟩:=hw;subst e1;cases r;obtain ⟨its,rv,ht,hz⟩:=I.tuple hq;refine assign_Tuple_tuple (I.ok.hd hc) ht (by simp [hn,<- hl,rv.length]) hst fun h' hx=>?_;have I1:Inv X pins σ H { s with heap:=h' }:=I.kept (t':=s.toks) fun b o e=>hx b o (Nat.ne_of_lt (Heap.lt_size e)) e;exact h pins _ σ H xs _ Q I1 (by simpa using rv) hw
def tAsg (te:TE)(g:TG):TS:=fun D σ H=>te σ H fun x H1=>g x σ H1 D.nx
theorem ps_asg {g:TG}(he:PE X e te)(hg:PG X tg g)(hs:swapsWithSole [tg] e pos.line X.env=pure false:=by rfl)(hw:swappedStores [tg] e X.env=pure none:=by rfl)
  (h1:(assignEach [tg] X.env).map (·.2) = [assign tg X.env]:=by rfl):PS X (.Assign [tg] e pos) (tAsg te g):=by
 intro pins s σ H D I h;refine wpAny_Assign_stores (thn (he pins s σ H _ I h) fun v s1 ⟨x,H1,I1,r1,q1⟩=>?_) hs hw;rw [h1];exact thn (hg pins s1 σ H1 x v _ I1 r1 q1) fun _ s2 q=>q
theorem a0u {pos':Pos}(hN:X.N.Nodup)(hi:X.N[i]? = some x)(hx:Loc X.env.scope x)(he:PE X e te)(hs:swapsWith e (some (.Name x pos')) pos.line X.env=pure false:=by rfl)(hf:X.fn x=true\/X.env.scope.names.lookup x=some .local:=by first | exact .inl rfl | exact .inr rfl | assumption) :
  PS X (.Assign [.Name x pos'] e pos) (tAsg te (gName i)):=by
 intro pins s σ H D I h;refine wpAny_Assign_Name (thn (he pins s σ H _ I h) fun v s1 ⟨y,H1,I1,r1,q1⟩=>?_) hs;exact d8y I1 hN hi hx r1 (fun s2 I2=>⟨_,H1,I2,q1⟩) hf
end
section
variable {X:Cx}{pos:Pos}
def tWhile (c:TT)(tb:TS):TS:=fun D σ H=>∃ W:Nat->St->Hp->Prop,(∃ m,W m σ H)/\∀ m σ H,W m σ H->
 c σ H fun b H1=>if b=true then ∃ N:St->Hp->Prop,(∀ σ' H',N σ' H'->∃ m',m' < m/\W m' σ' H')/\tb { D with nx:=N,ct:=N,bk:=D.nx } σ H1 else D.nx σ H1
theorem ps_while {body:List Stmt}{tb:TS}(hp:PassesOwn (model X.prog X.w) X.A X.env X.xe)(hc:PT X c tc)(hb:PSs X body tb):PS X (.While c body [] pos) (tWhile tc tb):=by
 intro pins s σ H D I h;obtain ⟨W,⟨m0,w0⟩,c0v⟩:=h;refine wpAny_While (codeAny_whileLoop (fun n s'=>∃ σ' H',Inv X pins σ' H' s'/\W n σ' H') ?_ m0 ⟨σ,H,I,w0⟩);rintro n s1 ⟨σ1,H1,I1,w1⟩;refine wpAny_passesOwn hp (thn (hc pins s1 σ1 H1 _ I1 (c0v n σ1 H1 w1)) fun b s2 ⟨H2,I2,q2⟩=>?_)
 cases b with
 | true=>
  obtain ⟨N,hN,q2⟩:=q2;rw [if_pos rfl];refine wpAny_passesOwn hp (thn (hb pins s2 σ1 H2 _ I2 q2) fun f s3 q3=>?_)
  cases f with
  | next=>
   obtain ⟨σ3,H3,I3,n3⟩:=q3;obtain ⟨m',hm,w3⟩:=hN σ3 H3 n3;exact ⟨m',hm,σ3,H3,I3,w3⟩
  | cont=>
   obtain ⟨σ3,H3,I3,n3⟩:=q3;obtain ⟨m',hm,w3⟩:=hN σ3 H3 n3;exact ⟨m',hm,σ3,H3,I3,w3⟩
  | brk=>exact q3
  | ret v=>exact q3
 | false=>
  rw [if_neg Bool.false_ne_true];exact wpAny_execs_nil ⟨σ1,H2,I2,q2⟩
end
structure It where
 go:Nat->Hp->Prop
 yld:Nat->Hp->V->Hp->Prop
 stop:Nat->Hp->Prop
def FpOk (X:Cx)(pins:List (Addr × Obj))(H:Hp)(b:Addr):Prop:=
 H b=none/\b ≠ X.env.locals/\b ∉ X.fs/\(b ∈ X.ex\/X.s₀.heap.objs.size <= b)/\(∀ x c,X.env.cells.lookup x=some c->c ≠ b)/\∀ p ∈ X.pn ++ pins,p.1 ≠ b
theorem Inv.fpOk {H':Hp}{b:Addr}(I:Inv X pins σ H s)(hb:s.heap.objs.size <= b)(hn:H' b=none):FpOk X pins H' b:=by
 refine ⟨hn,Nat.ne_of_gt (Nat.lt_of_lt_of_le I.lt hb),I.nofs hb,.inr (Nat.le_trans I.sz hb),fun x c e z=>?_,fun p hp z=>?_⟩
 ·obtain ⟨v,q⟩:=I.cell x c e;exact absurd (Nat.lt_of_lt_of_le q.lt (by rw [z]; exact hb)) (Nat.lt_irrefl _)
 ·exact absurd (Nat.lt_of_lt_of_le (Heap.lt_size (I.pin p hp).1) (by rw [z]; exact hb)) (Nat.lt_irrefl _)
structure Turn (P:Program)(w:World)(K:PySem.W.Frag)(tg:Expr)(J:It)(fp:List Addr)(it:Addr)(tn:Nat->Heap->Prop):Prop where
 mem:it ∈ fp
 obj:∀ i h,tn i h->∀ b ∈ fp,∃ o,h.get? b=some o/\∀ v,o.data ≠ .cell v
 keep:∀ i h h',tn i h->(∀ b ∈ fp,∀ o,h.get? b=some o->h'.get? b=some o)->tn i h'
 item:∀ (X:Cx),X.prog=P->X.w=w->X.K=K->X.calm=true->∀ (i:Nat) (pins:List (Addr × Obj)) (s:Shared) (σ:St) (H:Hp) (E:Value->Shared->Prop),Inv X pins σ H s->(∀ b ∈ fp,FpOk X pins H b)->tn i s.heap->J.go i H->
  wpAny (model P w) X.A (pyNext (.ref it)) (fun r s1=>∃ u,r=some u/\
   wpAny (model P w) X.A (letOwnedTupleGo tg (.ref it) u) (fun _ s2=>∃ x H',Inv X pins σ H' s2/\a6j x u/\J.yld i H x H'/\tn (i + 1) s2.heap/\∀ b ∈ fp,H' b=none) E s1) E s
 done:∀ (X:Cx),X.prog=P->X.w=w->X.K=K->X.calm=true->∀ (i:Nat) (pins:List (Addr × Obj)) (s:Shared) (σ:St) (H:Hp) (E:Value->Shared->Prop),Inv X pins σ H s->(∀ b ∈ fp,FpOk X pins H b)->tn i s.heap->J.stop i H->
  wpAny (model P w) X.A (pyNext (.ref it)) (fun r s1=>r=none/\Inv X pins σ H s1) E s
 self:∀ (A:Around) (i:Nat) (s:Shared) (Q:Value->Shared->Prop) (E:Value->Shared->Prop),tn i s.heap->Q (.ref it) s->wpAny (model P w) A (pyIter (.ref it)) Q E s
abbrev TI:=St->Hp->(It->Hp->Prop)->Prop
def PIE (X:Cx)(pins:List (Addr × Obj))(σ:St)(tg:Expr)(R:It->Hp->Prop)(itv:Value)(s2:Shared):Prop:=
 ∃ (it:Addr) (fp:List Addr) (tn:Nat->Heap->Prop) (J:It) (H':Hp),itv=.ref it/\Inv X pins σ H' s2/\Turn X.prog X.w X.K tg J fp it tn/\tn 0 s2.heap/\(∀ b ∈ fp,FpOk X pins H' b)/\R J H'
def PI (X:Cx)(tg iter:Expr)(wi:TI):Prop:=
 ∀ (pins:List (Addr × Obj)) (s:Shared) (σ:St) (H:Hp) (R:It->Hp->Prop),Inv X pins σ H s->wi σ H R->
  wpAny (model X.prog X.w) X.A (eval iter X.env) (fun v s1=>wpAny (model X.prog X.w) X.A (pyIter v) (PIE X pins σ tg R) X.xe s1) X.xe s
theorem go_of {M:Model}{A:Around}{E:Value->Shared->Prop}{it:Addr}{o:Obj}{n:String}{vs:Array Value}{Q:Unit->Shared->Prop}(ho:s.heap.get? it=some o)(hc:o.cls=.type n)(hd:o.data=.fields vs)
  (hn:["enumerate","zip","dict_itemiterator","dict_reverseitemiterator","odict_iterator","itertools.zip_longest","itertools.pairwise"].contains n=false) (hQ:Q () s):wpAny M A (letOwnedTupleGo tg (.ref it) u) Q E s:=by
 unfold letOwnedTupleGo
 cases tg <;> first
  | exact wpAny_pure hQ
  | (cases u <;> first
    | exact wpAny_pure hQ
    | (refine wpAny_bind (wpAny_load ho ?_)
       rw [hc,hd];show wpAny M A (if (["enumerate","zip","dict_itemiterator","dict_reverseitemiterator","odict_iterator","itertools.zip_longest","itertools.pairwise"].contains n && vs[0]? == some (rawInt _)) = true then _ else _) Q E s;rw [if_neg (by intro h; rw [hn,Bool.false_and] at h; cases h)]
       exact wpAny_pure hQ))
def Itl (K:PySem.W.Frag)(a:Addr):It:=
 ⟨fun i H=>∃ xs x,SqL K H a xs/\xs[i]? = some x,fun i H x H'=>H' = H/\∀ xs,SqL K H a xs->xs[i]? = some x,fun i H=>∃ xs,SqL K H a xs/\xs.length <= i⟩
def Itt (K:PySem.W.Frag)(a:Addr):It:=
 ⟨fun i H=>∃ xs x,SqT K H a xs/\xs[i]? = some x,fun i H x H'=>H' = H/\∀ xs,SqT K H a xs->xs[i]? = some x,fun i H=>∃ xs,SqT K H a xs/\xs.length <= i⟩
def Itr (lo:Int)(n:Nat):It:=⟨fun i _=>i < n,fun i H x H'=>H' = H/\x=.int (lo + i),fun i _=>n <= i⟩
theorem turn_list (a it:Addr):Turn P w K tg (Itl K a) [it] it (fun i h=>h.IsListIter it a i) where
 mem:=by simp
 obj:=fun i h st b hb=>by
  have e:b=it:=by simpa using hb
  subst e;obtain ⟨o,e,c,d⟩:=st;exact ⟨o,e,fun v z=>by rw [d] at z; cases z⟩
 keep:=fun i h h' st k=>st.at fun o e=>k it (by simp) o e
 item:=by
  intro X hP hw hK hc i pins s σ H E I hf st hg;subst hP hw hK;obtain ⟨xs,x,hq,hx⟩:=hg;obtain ⟨its,rv,p,hz⟩:=I.list hq;obtain ⟨u,hu,ru⟩:=rv.get hx;obtain ⟨f0,f1,f2,f3,f4,f5⟩:=hf it (by simp);refine wpAny_pyNext_list_item st p.isList (x:=u) (by simpa using hu) fun h' st' sb=>?_;have I1:Inv X pins σ H { s with heap:=h' }:=I.turned (t':=s.toks) (fun b o hb e=>(sb.2 b hb).trans e) f0 f1 f3 f4 f5;obtain ⟨o,e,c,d⟩:=id st';exact ⟨u,rfl,go_of (s:={ s with heap:=h' }) e c d (by decide) ⟨x,H,I1,ru,⟨rfl,fun ys hy=>by rw [I.list_inj hy hq]; exact hx⟩,st',fun b hb=>(hf b hb).1⟩⟩
 done:=by
  intro X hP hw hK hc i pins s σ H E I hf st hg;subst hP hw hK;obtain ⟨xs,hq,hx⟩:=hg;obtain ⟨its,rv,p,hz⟩:=I.list hq;obtain ⟨f0,f1,f2,f3,f4,f5⟩:=hf it (by simp);have hl:=rv.length;exact wpAny_pyNext_list_end (I.ok.hd hc) st p.isList (by simp; omega) fun h' eb=>⟨rfl,I.turned (t':=s.toks) (fun b o hb e=>eb b o hb e) f0 f1 f3 f4 f5⟩
 self:=fun _ _ _ _ _ st h=>wpAny_pyIter_listiter st h
theorem turn_tuple (a it:Addr):Turn P w K tg (Itt K a) [it] it (fun i h=>h.IsTupleIter it a i) where
 mem:=by simp
 obj:=fun i h st b hb=>by
  have e:b=it:=by simpa using hb
  subst e;obtain ⟨o,e,c,d⟩:=st;exact ⟨o,e,fun v z=>by rw [d] at z; cases z⟩
 keep:=fun i h h' st k=>st.at fun o e=>k it (by simp) o e
 item:=by
  intro X hP hw hK hc i pins s σ H E I hf st hg;subst hP hw hK;obtain ⟨xs,x,hq,hx⟩:=hg;obtain ⟨its,rv,p,hz⟩:=I.tuple hq;obtain ⟨u,hu,ru⟩:=rv.get hx;obtain ⟨f0,f1,f2,f3,f4,f5⟩:=hf it (by simp);refine wpAny_pyNext_tuple_item st (show s.heap.IsTuple a its.toArray from p) (x:=u) (by simpa using hu) fun h' st' sb=>?_;have I1:Inv X pins σ H { s with heap:=h' }:=I.turned (t':=s.toks) (fun b o hb e=>(sb.2 b hb).trans e) f0 f1 f3 f4 f5;obtain ⟨o,e,c,d⟩:=id st';exact ⟨u,rfl,go_of (s:={ s with heap:=h' }) e c d (by decide) ⟨x,H,I1,ru,⟨rfl,fun ys hy=>by rw [I.tuple_inj hy hq]; exact hx⟩,st',fun b hb=>(hf b hb).1⟩⟩
 done:=by
  intro X hP hw hK hc i pins s σ H E I hf st hg;subst hP hw hK;obtain ⟨xs,hq,hx⟩:=hg;obtain ⟨its,rv,p,hz⟩:=I.tuple hq;obtain ⟨f0,f1,f2,f3,f4,f5⟩:=hf it (by simp);have hl:=rv.length;exact wpAny_pyNext_tuple_end (I.ok.hd hc) st (show s.heap.IsTuple a its.toArray from p) (by simp; omega) fun h' eb=>⟨rfl,I.turned (t':=s.toks) (fun b o hb e=>eb b o hb e) f0 f1 f3 f4 f5⟩
 self:=fun _ _ _ _ _ st h=>wpAny_pyIter_tupleiter st h
theorem turn_range (it:Addr)(lo:Int)(n:Nat):Turn P w K tg (Itr lo n) [it] it (fun i h=>IsRangeIter h it (lo + (i:Nat) * 1) ((n:Int) - (i:Nat)) 1) where
 mem:=by simp
 obj:=fun i h st b hb=>by
  have e:b=it:=by simpa using hb
  subst e
  exact ⟨_,st,fun v z=>by
   have z':Data.fields _=Data.cell v:=z
   cases z'⟩
 keep:=fun i h h' st k=>k it (by simp) _ st
 item:=by
  intro X hP hw hK hc i pins s σ H E I hf st hg;subst hP hw hK;obtain ⟨f0,f1,f2,f3,f4,f5⟩:=hf it (by simp);have W:=Walks.range (prog:=X.prog) (w:=X.w) (I.ok.hd hc) it lo 1 n;refine W.item i s _ _ hg st fun v h' tk hv st' kk=>?_;obtain ⟨t,rfl⟩:=hv;have I1:Inv X pins σ H { s with heap:=h',toks:=tk }:=I.turned (fun b o hb e=>kk b o (by simpa using hb) e) f0 f1 f3 f4 f5;refine ⟨_,rfl,go_of (s:={ s with heap:=h',toks:=tk }) (n:="range_iterator") st' rfl rfl (by decide) ⟨.int (lo + i),H,I1,⟨t,?_⟩,⟨rfl,rfl⟩,st',fun b hb=>(hf b hb).1⟩⟩;rw [Int.mul_one]
 done:=by
  intro X hP hw hK hc i pins s σ H E I hf st hg;subst hP hw hK;obtain ⟨f0,f1,f2,f3,f4,f5⟩:=hf it (by simp);exact wpAny_pyNext_range_end (I.ok.hd hc) st (by have:n <= i:=hg; omega) fun h' eb=>⟨rfl,I.turned (t':=s.toks) (fun b o hb e=>eb b o hb e) f0 f1 f3 f4 f5⟩
 self:=fun _ _ _ _ _ st h=>wpAny_pyIter_rangeiter st h
end L2
namespace L2
open PySem PySem.Spec PyProof.Rows
variable {l:Expr}{h:Heap}{H:Hp}{lo:Int}{pins:List (Addr × Obj)}{fp:List Addr}{pos:Pos}{s:Shared}{σ:St}{tl:TE}{g:TG}{tb:TS}{D:c4b}
section
variable {X:Cx}{tg:Expr}
def iList (K:PySem.W.Frag)(tl:TE):TI:=fun σ H R=>tl σ H fun x H1=>∃ a,x=.ref a/\(∃ xs,SqL K H1 a xs)/\R (Itl K a) H1
def iTup (K:PySem.W.Frag)(tl:TE):TI:=fun σ H R=>tl σ H fun x H1=>∃ a,x=.ref a/\(∃ xs,SqT K H1 a xs)/\R (Itt K a) H1
theorem a4p (hl:PE X l tl):PI X tg l (iList X.K tl):=by
 intro pins s σ H R I h;refine thn (hl pins s σ H _ I h) fun v s1 ⟨x,H1,I1,r1,q1⟩=>?_;obtain ⟨a,e,⟨xs,hq⟩,q⟩:=q1;subst e;cases r1;obtain ⟨its,rv,p,hz⟩:=I1.list hq;refine wpAny_pyIter_list p.isList ?_;refine ⟨s1.heap.objs.size,[s1.heap.objs.size],_,_,H1,rfl,I1.kept (t':=s1.toks) fun b o e=>Heap.get?_push_of_some _ e,turn_list a _,⟨_,Heap.get?_push_size _ rfl,rfl,rfl⟩,fun b hb=>?_,q⟩;have e:b=s1.heap.objs.size:=by simpa using hb
 subst e;exact I1.fpOk (Nat.le_refl _) (I1.hok.fresh (Nat.le_refl _))
theorem pi_tup (hl:PE X l tl):PI X tg l (iTup X.K tl):=by
 intro pins s σ H R I h;refine thn (hl pins s σ H _ I h) fun v s1 ⟨x,H1,I1,r1,q1⟩=>?_;obtain ⟨a,e,⟨xs,hq⟩,q⟩:=q1;subst e;cases r1;obtain ⟨its,rv,p,hz⟩:=I1.tuple hq;refine wpAny_pyIter_tuple (show s1.heap.IsTuple a its.toArray from p) ?_;refine ⟨s1.heap.objs.size,[s1.heap.objs.size],_,_,H1,rfl,I1.kept (t':=s1.toks) fun b o e=>Heap.get?_push_of_some _ e,turn_tuple a _,⟨_,Heap.get?_push_size _ rfl,rfl,rfl⟩,fun b hb=>?_,q⟩;have e:b=s1.heap.objs.size:=by simpa using hb
 subst e;exact I1.fpOk (Nat.le_refl _) (I1.hok.fresh (Nat.le_refl _))
theorem range_it {R:It->Hp->Prop}{E:Value->Shared->Prop}{hi:Int}{t u v:Tok}{tk:Nat}(I:Inv X pins σ H s)(h1:-(2 ^ 62) <= lo)(h2:lo < 2 ^ 62)(h3:-(2 ^ 62) <= hi)(h4:hi < 2 ^ 62)
  (q:R (Itr lo (hi - lo).toNat) H):wpAny (model X.prog X.w) X.A (pyIter (.ref s.heap.objs.size)) (PIE X pins σ tg R) E { s with heap:=s.heap.push { cls:=.type "range",data:=.fields #[.int lo t,.int hi u,.int 1 v] },toks:=tk }:=by
 refine wpAny_pyIter_range (IsRange.new ..) (small_one h1 h2 h3 h4) ?_;have I1:Inv X pins σ H { s with heap:=s.heap.push { cls:=.type "range",data:=.fields #[.int lo t,.int hi u,.int 1 v] },toks:=tk }:=I.kept fun b o e=>Heap.get?_push_of_some _ e
 refine ⟨(s.heap.push { cls:=.type "range",data:=.fields #[.int lo t,.int hi u,.int 1 v] }).objs.size,[(s.heap.push { cls:=.type "range",data:=.fields #[.int lo t,.int hi u,.int 1 v] }).objs.size],_,_,H,rfl,
  I1.kept (t':=tk) fun b o e=>Heap.get?_push_of_some _ e,turn_range _ lo (hi - lo).toNat,?_,fun b hb=>?_,q⟩
 ·have e1:lo + ((0:Nat):Int) * 1=lo:=by simp
  have e2:(((hi - lo).toNat:Nat):Int) - ((0:Nat):Int) = Builtin.Range.rangeSize lo hi 1:=by rw [rangeSize_one]; split <;> omega
  show IsRangeIter _ _ (lo + ((0:Nat):Int) * 1) ((((hi - lo).toNat:Nat):Int) - ((0:Nat):Int)) 1;rw [e1,e2];exact Heap.get?_push_size _ rfl
 ·have e:b=(s.heap.push { cls:=.type "range",data:=.fields #[.int lo t,.int hi u,.int 1 v] }).objs.size:=by simpa using hb
  subst e;exact I1.fpOk (Nat.le_refl _) (I1.hok.fresh (Nat.le_refl _))
def iRng1 (ta:TA):TI:=fun σ H R=>ta σ H fun vs H1=>∃ j:Int,vs=[.int j]/\-(2 ^ 62) <= j/\j < 2 ^ 62/\R (Itr 0 j.toNat) H1
theorem c9u {a:Expr}{ta:TA}{p:Pos}(hg:Gl X "range")(hm:X.mg "range" = none)(ha:PA X [a] ta)(hs:starEach [a] X.env=[(false,eval a X.env)]:=by rfl):PI X tg (.Call (.Name "range" p) [a] [] pos) (iRng1 ta):=by
 intro pins s σ H R I h;refine Call_ (ld_blt I hg hm boot_range (PyProof.Rows.callWith_type1 (thn (ha pos pins s σ H _ I h) fun us s1 ⟨vs,H1,I1,r1,q1⟩=>?_) hs rfl));obtain ⟨j,e,q1,q2,q⟩:=q1;subst e
 cases r1 with
 | cons r rr=>
  cases rr;obtain ⟨t,rfl⟩:=r;exact call_range_1 (range_it I1 (by omega) (by omega) q1 q2 (by simpa using q))
def tFor (wi:TI)(g:TG)(tb:TS):TS:=fun D σ H=>wi σ H fun J H1=>∃ W:Nat->Nat->St->Hp->Prop,(∃ m,W 0 m σ H1)/\∀ i m σ H,W i m σ H->
 (J.stop i H/\D.nx σ H)\/(J.go i H/\∃ N:St->Hp->Prop,(∀ σ' H',N σ' H'->∃ m',m' < m/\W (i + 1) m' σ' H')/\∀ x H',J.yld i H x H'->g x σ H' fun σ2 H2=>tb { D with nx:=N,ct:=N,bk:=D.nx } σ2 H2)
def d5m (fp:List Addr)(h:Heap):List (Addr × Obj):=fp.filterMap fun b=>(h.get? b).map fun o=>(b,o)
theorem b1d {b:Addr}{o:Obj}(hb:b ∈ fp)(e:h.get? b=some o):(b,o) ∈ d5m fp h:=List.mem_filterMap.mpr ⟨b,hb,by rw [e]; rfl⟩
theorem of_pinsAt {p:Addr × Obj}(hp:p ∈ d5m fp h):p.1 ∈ fp/\h.get? p.1=some p.2:=by
 obtain ⟨b,hb,e⟩:=List.mem_filterMap.mp hp
 cases q:h.get? b with
 | none=>rw [q] at e; cases e
 | some o=>
  rw [q] at e;have e':(b,o) = p:=Option.some.inj e;subst e';exact ⟨hb,q⟩
theorem Inv.pinned (I:Inv X pins σ H s)(hf:∀ b ∈ fp,FpOk X pins H b)(ho:∀ b ∈ fp,∃ o,s.heap.get? b=some o/\∀ v,o.data ≠ .cell v):Inv X (pins ++ d5m fp s.heap) σ H s:=
 I.pins_of fun p hp=>(List.mem_append.mp hp).elim (fun z=>I.pin p (List.mem_append_right _ z)) fun z=>by
  obtain ⟨hb,e⟩:=of_pinsAt z;obtain ⟨f0,f1,f2,_⟩:=hf p.1 hb;obtain ⟨o,e',d⟩:=ho p.1 hb;rw [e] at e'; cases e';exact ⟨e,f0,f1,f2,d⟩
theorem Inv.unpinned {pl:List (Addr × Obj)}(I:Inv X (pins ++ pl) σ H s):Inv X pins σ H s:=I.pins_of fun p hp=>I.pin p (List.mem_append_right _ (List.mem_append_left _ hp))
theorem b4k {iter:Expr}{body:List Stmt}{wi:TI}(hp:PassesOwn (model X.prog X.w) X.A X.env X.xe)(hc:X.calm=true)(hi:PI X tg iter wi)(hg:PG X tg g)(hb:PSs X body tb)
  (hs:∀ x,foldedSetIterable iter X.env x=pure x:=by intro _; rfl):PS X (.For tg iter body [] pos) (tFor wi g tb):=by
 intro pins s σ H D I h;refine wpAny_For (thn (hi pins s σ H _ I h) fun v s1 h1=>thn h1 fun itv s2 h2=>?_) hs;obtain ⟨it,fp,tn,J,H2,e,I2,T,st2,f2,W,⟨m0,w0⟩,c0v⟩:=h2;subst e;have stat:∀ {H':Hp},(∀ b ∈ fp,H' b=none)->∀ b ∈ fp,FpOk X pins H' b:=fun hn b hb=>⟨hn b hb,(f2 b hb).2⟩;refine codeAny_forLoop_any (fun n s'=>∃ i σ' H',Inv X pins σ' H' s'/\tn i s'.heap/\(∀ b ∈ fp,H' b=none)/\W i n σ' H') ?_ m0 ⟨0,σ,H2,I2,st2,fun b hb=>(f2 b hb).1,w0⟩;rintro n s3 ⟨i,σ3,H3,I3,st3,fr3,w3⟩
 rcases c0v i n σ3 H3 w3 with ⟨stop,qn⟩ | ⟨go,N,hN,step⟩
 ·refine wpAny_passesOwn hp (thn (T.done X rfl rfl rfl hc i pins s3 σ3 H3 X.xe I3 (stat fr3) st3 stop) fun r s4 ⟨hr,I4⟩=>?_);subst hr;exact wpAny_execs_nil ⟨σ3,H3,I4,qn⟩
 ·refine wpAny_passesOwn hp (thn (T.item X rfl rfl rfl hc i pins s3 σ3 H3 X.xe I3 (stat fr3) st3 go) fun r s4 ⟨u,hr,h4⟩=>?_);subst hr;refine wpAny_passesOwn hp (thn h4 fun _ s5 ⟨x,H5,I5,r5,y5,st5,fr5⟩=>?_);have I5':=I5.pinned (stat fr5) (T.obj _ _ st5);refine wpAny_passesOwn hp (thn (hg _ s5 σ3 H5 x u _ I5' r5 (step x H5 y5)) fun _ s6 ⟨σ6,H6,I6,q6⟩=>?_);refine wpAny_passesOwn hp (thn (hb _ s6 σ6 H6 _ I6 q6) fun f s7 q7=>?_)
  have again:∀ {σ7:St} {H7:Hp},Inv X (pins ++ d5m fp s5.heap) σ7 H7 s7->N σ7 H7->∃ m,m < n/\∃ i σ' H',Inv X pins σ' H' s7/\tn i s7.heap/\(∀ b ∈ fp,H' b=none)/\W i m σ' H':=fun {σ7 H7} I7 n7=>by
   obtain ⟨m',hm,w7⟩:=hN σ7 H7 n7;refine ⟨m',hm,i + 1,σ7,H7,I7.unpinned,T.keep _ _ _ st5 fun b hb o e=>(I7.pin (b,o) (List.mem_append_right _ (List.mem_append_right _ (b1d hb e)))).1,fun b hb=>?_,w7⟩;obtain ⟨o,e,d⟩:=T.obj _ _ st5 b hb;exact (I7.pin (b,o) (List.mem_append_right _ (List.mem_append_right _ (b1d hb e)))).2.1
  cases f with
  | next=>obtain ⟨σ7,H7,I7,n7⟩:=q7; exact again I7 n7
  | cont=>obtain ⟨σ7,H7,I7,n7⟩:=q7; exact again I7 n7
  | brk=>obtain ⟨σ7,H7,I7,q7⟩:=q7; exact ⟨σ7,H7,I7.unpinned,q7⟩
  | ret v=>obtain ⟨x7,σ7,H7,I7,r7,q7⟩:=q7; exact ⟨x7,σ7,H7,I7.unpinned,r7,q7⟩
end
theorem for_list {K:PySem.W.Frag}{a:Addr}{xs:List V}(Pv:Nat->St->Hp->Prop)(h0:Pv 0 σ H)(hl:∀ i σ H,i <= xs.length->Pv i σ H->SqL K H a xs)
  (hs:∀ i x σ H,xs[i]? = some x->Pv i σ H->g x σ H fun σ2 H2=>tb { D with nx:=Pv (i + 1),ct:=Pv (i + 1),bk:=D.nx } σ2 H2) (hd:∀ σ H,Pv xs.length σ H->D.nx σ H) :
  ∃ W:Nat->Nat->St->Hp->Prop,(∃ m,W 0 m σ H)/\∀ i m σ H,W i m σ H->
   ((Itl K a).stop i H/\D.nx σ H)\/((Itl K a).go i H/\∃ N:St->Hp->Prop,(∀ σ' H',N σ' H'->∃ m',m' < m/\W (i + 1) m' σ' H')/\∀ x H',(Itl K a).yld i H x H'->g x σ H' fun σ2 H2=>tb { D with nx:=N,ct:=N,bk:=D.nx } σ2 H2):=by
 refine ⟨fun i m σ H=>m=xs.length - i/\i <= xs.length/\Pv i σ H,⟨xs.length,by simp,Nat.zero_le _,h0⟩,?_⟩;rintro i m σ H ⟨rfl,hi,p⟩;have q:=hl i σ H hi p
 by_cases hlt:i < xs.length
 ·refine .inr ⟨⟨xs,xs[i],q,by simp [hlt]⟩,Pv (i + 1),fun σ' H' p'=>⟨xs.length - (i + 1),by omega,rfl,hlt,p'⟩,fun x H' y=>?_⟩;obtain ⟨e,y⟩:=y;subst e;exact hs i x σ _ (y xs q) p
 ·have e:i=xs.length:=by omega
  subst e;exact .inl ⟨⟨xs,q,Nat.le_refl _⟩,hd σ H p⟩
theorem for_range {n:Nat}(Pv:Nat->St->Hp->Prop)(h0:Pv 0 σ H)
  (hs:∀ i σ H,i < n->Pv i σ H->g (.int (lo + i)) σ H fun σ2 H2=>tb { D with nx:=Pv (i + 1),ct:=Pv (i + 1),bk:=D.nx } σ2 H2) (hd:∀ σ H,Pv n σ H->D.nx σ H) :
  ∃ W:Nat->Nat->St->Hp->Prop,(∃ m,W 0 m σ H)/\∀ i m σ H,W i m σ H->
   ((Itr lo n).stop i H/\D.nx σ H)\/((Itr lo n).go i H/\∃ N:St->Hp->Prop,(∀ σ' H',N σ' H'->∃ m',m' < m/\W (i + 1) m' σ' H')/\∀ x H',(Itr lo n).yld i H x H'->g x σ H' fun σ2 H2=>tb { D with nx:=N,ct:=N,bk:=D.nx } σ2 H2):=by
 refine ⟨fun i m σ H=>m=n - i/\i <= n/\Pv i σ H,⟨n,by simp,Nat.zero_le _,h0⟩,?_⟩;rintro i m σ H ⟨rfl,hi,p⟩
 by_cases hlt:i < n
 ·refine .inr ⟨hlt,Pv (i + 1),fun σ' H' p'=>⟨n - (i + 1),by omega,rfl,hlt,p'⟩,fun x H' y=>?_⟩;obtain ⟨e,y⟩:=y;subst e y;exact hs i σ _ hlt p
 ·have e:i=n:=by omega
  subst e;exact .inl ⟨Nat.le_refl _,hd σ H p⟩
end L2
namespace L2
open PySem PySem.Spec PyProof.Rows
variable {op:CmpOp}{H:Hp}{i j:Int}{pins:List (Addr × Obj)}{us:List Value}{s:Shared}{σ:St}{x:V}
abbrev R2:=V->V->Hp->VK->Prop
def OpR (X:Cx)(f:Value->Value->Sem Value)(r:R2):Prop:=
 ∀ (pins:List (Addr × Obj)) (s:Shared) (σ:St) (H:Hp) (x y:V) (v u:Value) (Q:VK),Inv X pins σ H s->a6j x v->a6j y u->r x y H Q->
  wpAny (model X.prog X.w) X.A (f v u) (EP X pins σ Q) X.xe s
def UnR (X:Cx)(f:Value->Sem Value)(r:V->Hp->VK->Prop):Prop:=
 ∀ (pins:List (Addr × Obj)) (s:Shared) (σ:St) (H:Hp) (x:V) (v:Value) (Q:VK),Inv X pins σ H s->a6j x v->r x H Q->
  wpAny (model X.prog X.w) X.A (f v) (EP X pins σ Q) X.xe s
def b2t (X:Cx)(f:Value)(r:List V->Hp->VK->Prop):Prop:=
 ∀ (pins:List (Addr × Obj)) (s:Shared) (σ:St) (H:Hp) (xs:List V) (us:List Value) (Q:VK),Inv X pins σ H s->a6q xs us->r xs H Q->
  wpAny (model X.prog X.w) X.A (call f us) (EP X pins σ Q) X.xe s
def tOp (r:R2)(ta tb:TE):TE:=fun σ H Q=>ta σ H fun x H1=>tb σ H1 fun y H2=>r x y H2 Q
def tUn (r:V->Hp->VK->Prop)(ta:TE):TE:=fun σ H Q=>ta σ H fun x H1=>r x H1 Q
def rI (C:Int->Int->Prop)(g:Int->Int->V):R2:=fun x y H Q=>∃ i j,x=.int i/\y=.int j/\C i j/\Q (g i j) H
def rI0 (g:Int->Int->V):R2:=fun x y H Q=>∃ i j,x=.int i/\y=.int j/\Q (g i j) H
def rU (g:Int->V):V->Hp->VK->Prop:=fun x H Q=>∃ i,x=.int i/\Q (g i) H
section
variable {X:Cx}{a b c:Expr}{ta tb tc:TE}{pos:Pos}
theorem binT (ha:PE X a ta)(hb:PE X b tb){R:V->V->Hp->Prop}(I:Inv X pins σ H s)
  (h:ta σ H fun x H1=>tb σ H1 fun y H2=>R x y H2) {Q:Value->Shared->Prop} {f:Value->Value->Sem Value}
  (hf:∀ v u s2 x y H2,Inv X pins σ H2 s2->a6j x v->a6j y u->R x y H2->wpAny (model X.prog X.w) X.A (f v u) Q X.xe s2) :
  wpAny (model X.prog X.w) X.A (eval a X.env) (fun v s₁=>wpAny (model X.prog X.w) X.A (eval b X.env) (fun u s₂=>wpAny (model X.prog X.w) X.A (f v u) Q X.xe s₂) X.xe s₁) X.xe s:=by
 refine thn (ha pins s σ H _ I h) fun v s1 ⟨x,H1,I1,r1,q1⟩=>?_;refine thn (hb pins s1 σ H1 _ I1 q1) fun u s2 ⟨y,H2,I2,r2,q2⟩=>?_;exact hf v u s2 x y H2 I2 r1 r2 q2
theorem a0w {op:Operator}{r:R2}(ho:OpR X (binaryOp op) r)(ha:PE X a ta)(hb:PE X b tb):PE X (.BinOp a op b pos) (tOp r ta tb):=by
 intro pins s σ H Q I h;exact wpAny_BinOp (binT ha hb I h fun v u s2 x y H2 I2 rx ry q=>ho pins s2 σ H2 x y v u Q I2 rx ry q)
theorem pe_un {op:UnaryOp}{r:V->Hp->VK->Prop}(ho:UnR X (unaryOp op) r)(ha:PE X a ta):PE X (.UnaryOp op a pos) (tUn r ta):=by
 intro pins s σ H Q I h;exact UnaryOp_ (thn (ha pins s σ H _ I h) fun v s1 ⟨x,H1,I1,r1,q1⟩=>ho pins s1 σ H1 x v Q I1 r1 q1)
theorem opI {f:Value->Value->Sem Value}{C:Int->Int->Prop}{g:Int->Int->Int}
  (rule:∀ (i j:Int) (t u:Tok) (s:Shared) (Q:Value->Shared->Prop) (E:Value->Shared->Prop),C i j->Q (.int (g i j) s.toks) { s with toks:=s.toks + 1 }->wpAny (model X.prog X.w) X.A (f (.int i t) (.int j u)) Q E s) :
  OpR X f (rI C fun i j=>.int (g i j)):=by
 intro pins s σ H x y v u Q I rx ry h;obtain ⟨i,j,rfl,rfl,hc,q⟩:=h;obtain ⟨t,rfl⟩:=rx;obtain ⟨t',rfl⟩:=ry;exact rule i j t t' s _ _ hc ⟨.int (g i j),H,I.tok _,⟨_,rfl⟩,q⟩
theorem opI0 {f:Value->Value->Sem Value}{g:Int->Int->Int}
  (rule:∀ (i j:Int) (t u:Tok) (s:Shared) (Q:Value->Shared->Prop) (E:Value->Shared->Prop),Q (.int (g i j) s.toks) { s with toks:=s.toks + 1 }->wpAny (model X.prog X.w) X.A (f (.int i t) (.int j u)) Q E s) :
  OpR X f (rI0 fun i j=>.int (g i j)):=by
 intro pins s σ H x y v u Q I rx ry h;obtain ⟨i,j,rfl,rfl,q⟩:=h;obtain ⟨t,rfl⟩:=rx;obtain ⟨t',rfl⟩:=ry;exact rule i j t t' s _ _ ⟨.int (g i j),H,I.tok _,⟨_,rfl⟩,q⟩
theorem opB0 {f:Value->Value->Sem Value}{g:Int->Int->Bool}
  (rule:∀ (i j:Int) (t u:Tok) (s:Shared) (Q:Value->Shared->Prop) (E:Value->Shared->Prop),Q (.bool (g i j)) s->wpAny (model X.prog X.w) X.A (f (.int i t) (.int j u)) Q E s) :
  OpR X f (rI0 fun i j=>.bl (g i j)):=by
 intro pins s σ H x y v u Q I rx ry h;obtain ⟨i,j,rfl,rfl,q⟩:=h;obtain ⟨t,rfl⟩:=rx;obtain ⟨t',rfl⟩:=ry;exact rule i j t t' s _ _ ⟨.bl (g i j),H,I,rfl,q⟩
def CPow (i j:Int):Prop:=0 <= j/\j <= 1000000/\i.natAbs < 2 ^ 64
def CMul (i j:Int):Prop:=(-(2 ^ 64) < i/\i < 2 ^ 64)\/(-(2 ^ 64) < j/\j < 2 ^ 64)
theorem CMul.ok (h:CMul i j):IntMulOk i j:=by
 rcases h with ⟨h1,h2⟩ | ⟨h1,h2⟩
 ·exact .of_left (intBits_le_64 h1 h2)
 ·exact .of_right (intBits_le_64 h1 h2)
theorem two_pow_nn (k:Nat):(0:Int) <= 2 ^ k:=by
 rw [two_pow_cast];exact Int.natCast_nonneg _
theorem a7p:OpR X (binaryOp .Add) (rI0 fun i j=>.int (i + j)):=opI0 fun _ _ _ _ _ _ _ q=>add_int q
theorem d4u:OpR X (binaryOp .Sub) (rI0 fun i j=>.int (i - j)):=opI0 fun _ _ _ _ _ _ _ q=>sub_int q
theorem op_mul:OpR X (binaryOp .Mult) (rI CMul fun i j=>.int (i * j)):=opI fun _ _ _ _ _ _ _ hc q=>mul_int q hc.ok
theorem a6r:OpR X (binaryOp .Mod) (rI (fun _ j=>0 < j) fun i j=>.int (i % j)):=opI fun i j _ _ _ _ _ hc q=>by
 have h1:(0:Int) < j:=hc;exact mod_int' (by omega) (by rw [Int.fmod_eq_emod_of_nonneg i (by omega)]; exact q)
theorem a8k:OpR X (binaryOp .LShift) (rI CPow fun i j=>.int (i * 2 ^ j.toNat)):=opI fun _ _ _ _ _ _ _ hc q=>lshift_int_small hc.1 hc.2.1 hc.2.2 q
theorem op_shr:OpR X (binaryOp .RShift) (rI (fun _ j=>0 <= j) fun i j=>.int (i / 2 ^ j.toNat)):=opI fun i j _ _ _ _ _ hc q=>
 rshift_int hc (by rw [Int.fdiv_eq_ediv_of_nonneg i (two_pow_nn _)]; exact q)
theorem b0s:OpR X (binaryOp .BitAnd) (rI0 fun i j=>.int (Builtin.bitAnd i j)):=opI0 fun _ _ _ _ _ _ _ q=>and_int q
theorem op_or:OpR X (binaryOp .BitOr) (rI0 fun i j=>.int (Builtin.bitOr i j)):=opI0 fun _ _ _ _ _ _ _ q=>or_int q
theorem a4x:OpR X (binaryOp .BitXor) (rI0 fun i j=>.int (Builtin.bitXor i j)):=opI0 fun _ _ _ _ _ _ _ q=>xor_int q
theorem unI {f:Value->Sem Value}{g:Int->Int}
  (rule:∀ (i:Int) (t:Tok) (s:Shared) (Q:Value->Shared->Prop) (E:Value->Shared->Prop),Q (.int (g i) s.toks) { s with toks:=s.toks + 1 }->wpAny (model X.prog X.w) X.A (f (.int i t)) Q E s) :
  UnR X f (rU fun i=>.int (g i)):=by
 intro pins s σ H x v Q I rx h;obtain ⟨i,rfl,q⟩:=h;obtain ⟨t,rfl⟩:=rx;exact rule i t s _ _ ⟨.int (g i),H,I.tok _,⟨_,rfl⟩,q⟩
theorem d2z:UnR X (unaryOp .USub) (rU fun i=>.int (-i)):=unI fun _ _ _ _ _ q=>neg_int q
end
def scal:V->V->Bool
 | .non,.non=>true | .non,.int _=>true | .int _,.non=>true | .non,.bl _=>true | .bl _,.non=>true | .non,.str _=>true | .str _,.non=>true
 | .int _,.int _=>true | .bl _,.bl _=>true | .str _,.str _=>true | .byt _,.byt _=>true
 | .int _,.str _=>true | .str _,.int _=>true | .bl _,.str _=>true | .str _,.bl _=>true
 | _,_=>false
def rEq:R2:=fun x y H Q=>scal x y=true/\Q (.bl (decide (x=y))) H
def rNe:R2:=fun x y H Q=>scal x y=true/\Q (.bl (!decide (x=y))) H
theorem dec_int :decide (V.int i=V.int j) = (i == j):=by
 rw [Bool.eq_iff_iff];simp
theorem dec_bl {i j:Bool}:decide (V.bl i=V.bl j) = (i == j):=by
 rw [Bool.eq_iff_iff];simp
theorem dec_str {i j:Str}:decide (V.str i=V.str j) = (i == j):=by
 rw [Bool.eq_iff_iff];simp
theorem dec_byt {i j:Array UInt8}:decide (V.byt i=V.byt j) = (i.toList == j.toList):=by
 rw [Bool.eq_iff_iff];cases i;cases j;simp
section
variable {X:Cx}{a b c:Expr}{ta tb tc:TE}{pos:Pos}
theorem a3r {Q:VK}{k k':Bool}(I:Inv X pins σ H s)(q:Q (.bl k) H)(e:k=k'):EP X pins σ Q (.bool k') s:=by
 subst e;exact ⟨.bl k,H,I,rfl,q⟩
theorem a8n:OpR X (compareOp .Eq) rEq:=by
 intro pins s σ H x y v u Q I rx ry h;obtain ⟨hs,q⟩:=h
 cases x with
 | non=>
  cases rx
  cases y with
  | non=>cases ry; exact PySem.EqNone.eq_none_none (a3r I q (by simp))
  | bl j=>cases ry; exact PySem.EqNone.eq_none_bool (a3r I q (by simp))
  | int j=>obtain ⟨t',rfl⟩:=ry; exact PySem.EqNone.eq_none_int (a3r I q (by simp))
  | str j=>obtain ⟨t',rfl⟩:=ry; exact PySem.EqNone.eq_none_str (a3r I q (by simp))
  | _=>exact absurd (show false=true from hs) Bool.false_ne_true
 | bl i=>
  cases rx
  cases y with
  | non=>cases ry; exact PySem.EqNone.eq_bool_none (a3r I q (by simp))
  | bl j=>cases ry; exact eq_bool (a3r I q dec_bl)
  | str j=>obtain ⟨t',rfl⟩:=ry; exact PySem.EqMixed.eq_bool_str (a3r I q (by simp))
  | _=>exact absurd (show false=true from hs) Bool.false_ne_true
 | int i=>
  obtain ⟨t,rfl⟩:=rx
  cases y with
  | non=>cases ry; exact PySem.EqNone.eq_int_none (a3r I q (by simp))
  | int j=>obtain ⟨t',rfl⟩:=ry; exact eq_int (a3r I q dec_int)
  | str j=>obtain ⟨t',rfl⟩:=ry; exact PySem.EqMixed.eq_int_str (a3r I q (by simp))
  | _=>exact absurd (show false=true from hs) Bool.false_ne_true
 | str i=>
  obtain ⟨t,rfl⟩:=rx
  cases y with
  | non=>cases ry; exact PySem.EqNone.eq_str_none (a3r I q (by simp))
  | bl j=>cases ry; exact PySem.EqMixed.eq_str_bool (a3r I q (by simp))
  | int j=>obtain ⟨t',rfl⟩:=ry; exact PySem.EqMixed.eq_str_int (a3r I q (by simp))
  | str j=>obtain ⟨t',rfl⟩:=ry; exact eq_str (a3r I q dec_str)
  | _=>exact absurd (show false=true from hs) Bool.false_ne_true
 | byt i=>
  obtain ⟨t,rfl⟩:=rx
  cases y with
  | byt j=>obtain ⟨t',rfl⟩:=ry; exact PySem.W.eq_bytes (a3r I q dec_byt)
  | _=>exact absurd (show false=true from hs) Bool.false_ne_true
 | _=>cases y <;> exact absurd (show false=true from hs) Bool.false_ne_true
theorem d4b:OpR X (compareOp .NotEq) rNe:=by
 intro pins s σ H x y v u Q I rx ry h;obtain ⟨hs,q⟩:=h
 cases x with
 | non=>
  cases rx
  cases y with
  | non=>cases ry; exact PySem.EqNone.ne_none_none (a3r I q (by simp))
  | bl j=>cases ry; exact PySem.EqNone.ne_none_bool (a3r I q (by simp))
  | int j=>obtain ⟨t',rfl⟩:=ry; exact PySem.EqNone.ne_none_int (a3r I q (by simp))
  | str j=>obtain ⟨t',rfl⟩:=ry; exact PySem.EqNone.ne_none_str (a3r I q (by simp))
  | _=>exact absurd (show false=true from hs) Bool.false_ne_true
 | bl i=>
  cases rx
  cases y with
  | non=>cases ry; exact PySem.EqNone.ne_bool_none (a3r I q (by simp))
  | bl j=>cases ry; exact ne_bool (a3r I q (congrArg not dec_bl))
  | str j=>obtain ⟨t',rfl⟩:=ry; exact PySem.EqMixed.ne_bool_str (a3r I q (by simp))
  | _=>exact absurd (show false=true from hs) Bool.false_ne_true
 | int i=>
  obtain ⟨t,rfl⟩:=rx
  cases y with
  | non=>cases ry; exact PySem.EqNone.ne_int_none (a3r I q (by simp))
  | int j=>obtain ⟨t',rfl⟩:=ry; exact ne_int (a3r I q (congrArg not dec_int))
  | str j=>obtain ⟨t',rfl⟩:=ry; exact PySem.EqMixed.ne_int_str (a3r I q (by simp))
  | _=>exact absurd (show false=true from hs) Bool.false_ne_true
 | str i=>
  obtain ⟨t,rfl⟩:=rx
  cases y with
  | non=>cases ry; exact PySem.EqNone.ne_str_none (a3r I q (by simp))
  | bl j=>cases ry; exact PySem.EqMixed.ne_str_bool (a3r I q (by simp))
  | int j=>obtain ⟨t',rfl⟩:=ry; exact PySem.EqMixed.ne_str_int (a3r I q (by simp))
  | str j=>obtain ⟨t',rfl⟩:=ry; exact ne_str (a3r I q (congrArg not dec_str))
  | _=>exact absurd (show false=true from hs) Bool.false_ne_true
 | byt i=>
  obtain ⟨t,rfl⟩:=rx
  cases y with
  | byt j=>obtain ⟨t',rfl⟩:=ry; exact PySem.W.ne_bytes (a3r I q (congrArg not dec_byt))
  | _=>exact absurd (show false=true from hs) Bool.false_ne_true
 | _=>cases y <;> exact absurd (show false=true from hs) Bool.false_ne_true
theorem op_lt:OpR X (compareOp .Lt) (rI0 fun i j=>.bl (decide (i < j))):=opB0 fun _ _ _ _ _ _ _ q=>lt_int q
theorem op_gt:OpR X (compareOp .Gt) (rI0 fun i j=>.bl (decide (j < i))):=opB0 fun _ _ _ _ _ _ _ q=>gt_int q
theorem op_ge:OpR X (compareOp .GtE) (rI0 fun i j=>.bl (decide (j <= i))):=opB0 fun _ _ _ _ _ _ _ q=>ge_int q
theorem op_isN:OpR X (compareOp .Is) (fun x y H Q=>y=.non/\Q (.bl (decide (x=.non))) H):=by
 intro pins s σ H x y v u Q I rx ry h;obtain ⟨rfl,q⟩:=h;cases ry;refine is_none_gen (a3r I q ?_)
 cases x <;> first
  | (cases rx; rfl)
  | (obtain ⟨t,rfl⟩:=rx; rfl)
theorem op_notN:OpR X (compareOp .IsNot) (fun x y H Q=>y=.non/\Q (.bl (!decide (x=.non))) H):=by
 intro pins s σ H x y v u Q I rx ry h;obtain ⟨rfl,q⟩:=h;cases ry;refine isnot_none_gen (a3r I q ?_)
 cases x <;> first
  | (cases rx; rfl)
  | (obtain ⟨t,rfl⟩:=rx; rfl)
theorem a1r (b:Expr)(h:op ≠ .In:=by decide)(h2:op ≠ .NotIn:=by decide):behindInMarks op b=false:=by
 have e1:(op == CmpOp.In) = false:=by cases op <;> first | rfl | exact absurd rfl h
 have e2:(op == CmpOp.NotIn) = false:=by cases op <;> first | rfl | exact absurd rfl h2
 cases b <;> simp [behindInMarks,e1,e2]
theorem b7s {r:R2}(ho:OpR X (compareOp op) r)(ha:PE X a ta)(hb:PE X b tb)(hm:behindInMarks op b=false):PE X (.Compare a [op] [b] pos) (tOp r ta tb):=by
 intro pins s σ H Q I h;exact wpAny_Compare1 (binT ha hb I h fun v u s2 x y H2 I2 rx ry q=>ho pins s2 σ H2 x y v u Q I2 rx ry q) hm
def tTest (t:TE):TT:=fun σ H Q=>t σ H fun x H'=>∃ k,x=.bl k/\Q k H'
theorem a1e {r:R2}(ho:OpR X (compareOp op) r)(ha:PE X a ta)(hb:PE X b tb)(hm:behindInMarks op b=false):PT X (.Compare a [op] [b] pos) (tTest (tOp r ta tb)):=by
 intro pins s σ H Q I h
 refine wpAny_isTrue_Compare1 (thn (ha pins s σ H _ I h) fun v s1 ⟨x,H1,I1,r1,q1⟩=>thn (hb pins s1 σ H1 _ I1 q1) fun u s2 ⟨y,H2,I2,r2,q2⟩=>
  thn (ho pins s2 σ H2 x y v u _ I2 r1 r2 q2) fun c s3 ⟨z,H3,I3,r3,k,e,q3⟩=>?_) hm
 subst e;cases r3;exact wpAny_truthy_bool ⟨H3,I3,q3⟩
theorem line63:(sizeLine:Nat) < 2 ^ 63:=by rw [sizeLine_eq]; decide
theorem vals1 (r:a6q [x] us):∃ u,us=[u]/\a6j x u:=by
 cases r with
 | cons r1 r2=>cases r2; exact ⟨_,rfl,r1⟩
theorem vals2 {y:V}(r:a6q [x,y] us):∃ u w',us=[u,w']/\a6j x u/\a6j y w':=by
 cases r with
 | cons r1 r2=>
  cases r2 with
  | cons r3 r4=>cases r4; exact ⟨_,_,rfl,r1,r3⟩
theorem call_max2 (hc:X.calm=true):b2t X (.builtin "max") (fun xs H Q=>∃ i j,xs=[.int i,.int j]/\Q (.int (if j > i then j else i)) H):=by
 intro pins s σ H xs us Q I r h;obtain ⟨i,j,rfl,q⟩:=h;obtain ⟨u,w',rfl,⟨t,rfl⟩,⟨t',rfl⟩⟩:=vals2 r;refine max_two_ints (I.ok.hd hc) fun h' tk k=>⟨_,H,I.kept k,?_,q⟩
 by_cases hj:j > i
 ·rw [if_pos hj,if_pos hj]; exact ⟨_,rfl⟩
 ·rw [if_neg hj,if_neg hj]; exact ⟨_,rfl⟩
theorem call_int1:b2t X (.type "int") (fun xs H Q=>(∃ i,xs=[.int i]/\Q (.int i) H)\/∃ k,xs=[.bl k]/\Q (.int (if k then 1 else 0)) H):=by
 intro pins s σ H xs us Q I r h
 rcases h with ⟨i,rfl,q⟩ | ⟨k,rfl,q⟩
 ·obtain ⟨u,rfl,t,rfl⟩:=vals1 r;exact call_int_int ⟨.int i,H,I,⟨_,rfl⟩,q⟩
 ·obtain ⟨u,rfl,r1⟩:=vals1 r;cases r1;exact call_int_bool ⟨.int (if k then 1 else 0),H,I.tok _,⟨_,rfl⟩,q⟩
end
end L2
namespace L2
open PySem PySem.Spec PyProof.Rows
variable {C dx:Addr}{h:Heap}{o:Option Value}{K:PySem.W.Frag}{pl:Sem Bool}{v:V}{u:Value}
structure ObjM (h:Heap)(x dx C:Addr)(mA:Str->Option Value):Prop where
 obj:h.get? x=some (PySem.W.instObj C dx)
 ns:h.Ns1 dx mA
 ne:dx ≠ x
theorem lookIn_ns {mA:Str->Option Value}(n:h.Ns1 dx mA):∃ od,h.get? dx=some od/\∀ name,PySem.W.lookIn name od=some (mA name):=by
 obtain ⟨o,es,ep,ho,hd,hk,_,hm⟩:=n;refine ⟨o,ho,fun name=>?_⟩;have e:=hm name;unfold nsFind findBy at e;rw [<- Array.find?_toList] at e;unfold PySem.W.lookIn;rw [hd];dsimp only
 split
 ·rename_i y q;rw [q] at e;exact congrArg some e
 ·rename_i q;rw [q] at e
  have a:es.toList.any (·.refKey) = false:=by
   rw [List.any_eq_false];intro y hy;obtain ⟨z,t,hkey⟩:=hk y (Array.mem_toList_iff.mp hy);simp [DictEntry.refKey,hkey]
  have a':¬ es.toList.any (·.refKey) = true:=by rw [a]; exact Bool.false_ne_true
  rw [if_neg a'];exact congrArg some e
theorem ObjM.look {x:Addr}{mA:Str->Option Value}(I:ObjM h x dx C mA):∃ od,PySem.W.InstAt h x (PySem.W.instObj C dx) C (some od)/\∀ name,PySem.W.lookIn name od=some (mA name):=
 let ⟨od,ho,hl⟩:=lookIn_ns I.ns
 ⟨od,⟨I.obj,rfl,rfl,ho⟩,hl⟩
section
variable {prog:Program}{w:World}{A:Around}{E:Value->Shared->Prop}{s:Shared}{K:PySem.W.Frag}{x dx C f:Addr}{mA:Str->Option Value}{name:Str}{v:Value}
theorem get_map {expr:Bool}{Q:Value->Shared->Prop}(X:K.In s.heap)(I:ObjM s.heap x dx C mA)(hg:PySem.W.plainGet K C name=true)(hh:PySem.W.hasDictIn K C=true)
  (ha:PySem.W.findIn K (.ref C) name=some none) (hv:mA name=some v) (hv':PySem.W.handedIn v=true) (h:Q v { s with toks:=s.toks + 1 }) :
  wpAny (model prog w) A (getAttr (.ref x) name expr) Q E s:=by
 obtain ⟨od,J,hl⟩:=I.look;exact PySem.W.get_value X J (PySem.W.plainGet_of hg).1 (PySem.W.findObj_own hh ha rfl (by rw [hl,hv])) hv' h
theorem get_meth {Q:Value × List Value->Shared->Prop}(X:K.In s.heap)(I:ObjM s.heap x dx C mA)(hg:PySem.W.plainGet K C name=true)
  (hf:PySem.W.findIn K (.ref C) name=some (some (.ref f))) (ht:PySem.W.isFn K (.ref f) = true) (hv:mA name=none) (h:Q (.ref f,[.ref x]) s) :
  wpAny (model prog w) A (getMethod (.ref x) name pl) Q E s:=by
 obtain ⟨od,J,hl⟩:=I.look;exact PySem.W.method_fn X J (PySem.W.plainGet_of hg).1 (PySem.W.plainGet_of hg).2 hf (beq_iff_eq.mp ht) (by show (PySem.W.lookIn name od).map (·.isSome) = some false; rw [hl,hv]; rfl) h
theorem set_map {ns:List Str}{Q:Unit->Shared->Prop}(X:K.In s.heap)(I:ObjM s.heap x dx C mA)
  (hs:PySem.W.findIn K (.ref C) "__setattr__" = some (some (.builtin "object.__setattr__"))) (hp:PySem.W.plainOver K C=true) (ht:PySem.W.takerIn K C name=some none) (hh:PySem.W.hasDictIn K C=true)
  (hw:PySem.Within mA ns) (hsz:ns.length <= sizeLine)
  (h:∀ h',ObjM h' x dx C (fun y=>if y=name then some v else mA y)->Heap.SameBut dx s.heap h'->Q () { s with heap:=h',toks:=s.toks + 2 }) :
  wpAny (model prog w) A (setAttr (.ref x) name v) Q E s:=by
 obtain ⟨od,J,hl⟩:=I.look;refine PySem.W.set_plain X J hs (PySem.W.osa_open (s:={ s with toks:=s.toks + 1 }) (r:=none) X J hp ht fun b=>?_);obtain ⟨cd,hc,hd'⟩:=PySem.W.any_some hh;have hx:s.heap.get? x=some ⟨.ref C,some dx,.plain,#[]⟩:=I.obj;refine wpAny_bind (wpAny_pure (wpAny_bind (wpAny_bind (wpAny_loadPart hx (wpAny_bind (PySem.W.Looks.here (s:={ s with toks:=s.toks + 1 }) (PySem.W.looks_clsIn X hc) ?_))))));rw [hd'];refine wpAny_pure (a:=some dx) (wpAny_bind (wpAny_pure (wpAny_bind ?_)));refine wpAny_nsSet1 (s:={ s with toks:=s.toks + 1 }) I.ns fun h' hn2 hs2=>?_;obtain ⟨oD,esD,epD,hoD,hdD,hcD⟩:=hn2.count (PySem.Within.cons name v hw);refine wpAny_bind (wpAny_lookBehind hoD (by rw [hdD]; exact pastItsLine_dict (Nat.le_trans hcD (by rw [List.length_cons]; omega))) ?_);exact wpAny_pure (h _ ⟨(hs2.2 _ (Ne.symm I.ne)).trans I.obj,hn2,I.ne⟩ hs2)
theorem make_map {R:Result->Shared->Prop}{vs:List Value}{kw:List (Str × Value)}(X:K.In s.heap)(hm:PySem.W.makesIn K C=true)
  (hi:PySem.W.findIn K (.ref C) "__init__" = some (some (.ref f))) (hf:PySem.W.typeIn K (.ref f) = some (.type "function"))
  (h:codeAny (model prog w) (A.under (.builtin "type.__call__" ⟨.ref C :: vs,kw⟩)) (.call (.ref f) ⟨.ref (s.heap.objs.size + 1) :: vs,kw⟩) (PySem.W.InitBack (s.heap.objs.size + 1) R)
   { s with heap:=(s.heap.push PySem.W.emptyDict).push (PySem.W.instObj C s.heap.objs.size) }) :
  codeAny (model prog w) A (.call (.ref C) ⟨vs,kw⟩) R s:=by
 obtain ⟨hh,g,d,t,os⟩:=s;exact PySem.W.make_core (PySem.W.makes_of X hm) (PySem.W.looks_findIn X hi) (fun self=>PySem.W.bind_fn X self hf) (.inl rfl) h
end
def c5j (f:Str)(v:V):List (Str × V)->List (Str × V)
 | []=>[(f,v)]
 | (g,x) :: r=>if g=f then (g,v) :: r else (g,x) :: c5j f v r
theorem d0s (f g:Str)(v:V):∀ fs:List (Str × V),(c5j f v fs).lookup g=if g=f then some v else fs.lookup g
 | []=>by
  show List.lookup g [(f,v)] = _
  by_cases h:g=f
  ·have hb:(g == f) = true:=beq_iff_eq.mpr h;simp only [List.lookup,hb,if_pos h]
  ·have hb:(g == f) = false:=beq_eq_false_iff_ne.mpr h;simp only [List.lookup,hb,if_neg h]
 | (k,x) :: r=>by
  have ih:=d0s f g v r;rw [show c5j f v ((k,x) :: r) = (if k=f then (k,v) :: r else (k,x) :: c5j f v r) from rfl]
  by_cases hk:k=f
  ·rw [if_pos hk]
   by_cases h:g=k
   ·have hb:(g == k) = true:=beq_iff_eq.mpr h;simp only [List.lookup,hb,if_pos (h.trans hk)]
   ·have hb:(g == k) = false:=beq_eq_false_iff_ne.mpr h;simp only [List.lookup,hb,if_neg (fun e:g=f=>h (e.trans hk.symm))]
  ·rw [if_neg hk]
   by_cases h:g=k
   ·have hb:(g == k) = true:=beq_iff_eq.mpr h;simp only [List.lookup,hb,if_neg (fun e:g=f=>hk (h.symm.trans e))]
   ·have hb:(g == k) = false:=beq_eq_false_iff_ne.mpr h;simp only [List.lookup,hb];exact ih
theorem d1c (f:Str)(v:V):∀ fs:List (Str × V),f ∈ (c5j f v fs).map (·.1)/\∀ g,g ∈ fs.map (·.1)->g ∈ (c5j f v fs).map (·.1)
 | []=>⟨by simp [c5j],fun g h=>by simp at h⟩
 | (k,x) :: r=>by
  obtain ⟨i1,i2⟩:=d1c f v r;rw [show c5j f v ((k,x) :: r) = (if k=f then (k,v) :: r else (k,x) :: c5j f v r) from rfl]
  by_cases hk:k=f
  ·rw [if_pos hk];subst hk;exact ⟨by simp,fun g h=>by simpa using h⟩
  ·rw [if_neg hk];refine ⟨?_,fun g h=>?_⟩
   ·rw [List.map_cons];exact List.mem_cons_of_mem _ i1
   ·rw [List.map_cons] at h ⊢
    rcases List.mem_cons.mp h with e | e
    ·exact List.mem_cons.mpr (.inl e)
    ·exact List.mem_cons_of_mem _ (i2 g e)
theorem b1y (f:Str)(v:V):∀ fs:List (Str × V),(c5j f v fs).length <= fs.length + 1
 | []=>by simp [c5j]
 | (k,x) :: r=>by
  have ih:=b1y f v r;rw [show c5j f v ((k,x) :: r) = (if k=f then (k,v) :: r else (k,x) :: c5j f v r) from rfl]
  by_cases hk:k=f
  ·rw [if_pos hk,List.length_cons,List.length_cons]; omega
  ·rw [if_neg hk,List.length_cons,List.length_cons]; omega
theorem RelO.some_of (r:RelO (some v) o):∃ u,o=some u/\a6j v u:=by
 cases o with
 | none=>exact (show False from r).elim
 | some u=>exact ⟨u,rfl,r⟩
theorem RelO.none_of (r:RelO none o):o=none:=by
 cases o with
 | none=>rfl
 | some u=>exact (show False from r).elim
theorem handed_of (r:a6j v u):PySem.W.handedIn u=true:=by
 cases v with
 | non=>cases (show u=Value.none from r); rfl
 | bl b=>cases (show u=Value.bool b from r); rfl
 | int i=>obtain ⟨t,e⟩:=(show ∃ t,u=Value.int i t from r); cases e; rfl
 | str x=>obtain ⟨t,e⟩:=(show ∃ t,u=Value.str x t from r); cases e; rfl
 | byt b=>obtain ⟨t,e⟩:=(show ∃ t,u=Value.bytes b t from r); cases e; rfl
 | flt b=>obtain ⟨t,e⟩:=(show ∃ t,u=Value.float b t from r); cases e; rfl
 | ref a=>cases (show u=Value.ref a from r); rfl
 | ty n=>cases (show u=Value.type n from r); rfl
section
variable {P:Program}{w:World}{H H':Hp}{h h':Heap}{a C dx:Addr}{fs fs':List (Str × V)}
theorem d6g (hok:HOk P w H h)(e:H a=some (.ins C dx fs)):∃ mA,ObjM h a dx C mA/\(∀ f,RelO (fs.lookup f) (mA f))/\PySem.Within mA (fs.map (·.1))/\fs.length <= 1000/\H dx=some (.own a):=by
 obtain ⟨d,z,ne,ob,mA,n,r,q⟩:=(show a6c P w H h a (.ins C dx fs) from hok a _ e);exact ⟨mA,⟨ob,n,ne⟩,r,q,z,d⟩
end
structure Cls (K:PySem.W.Frag)(C:Addr):Prop where
 pg:PySem.W.plainGet K C Str.empty=true
 hd:PySem.W.hasDictIn K C=true
 po:PySem.W.plainOver K C=true
 sa:PySem.W.findIn K (.ref C) "__setattr__" = some (some (.builtin "object.__setattr__"))
theorem Cls.get (c:Cls K C)(f:Str):PySem.W.plainGet K C f=true:=c.pg
def a8m (K:PySem.W.Frag)(C:Addr)(f:Str):Prop:=PySem.W.findIn K (.ref C) f=some none
theorem a8m.taker {f:Str}(n:a8m K C f):PySem.W.takerIn K C f=some none:=by
 unfold PySem.W.takerIn;rw [show PySem.W.findIn K (.ref C) f=some none from n];rfl
structure Meth (K:PySem.W.Frag)(C:Addr)(m:Str)(f:Addr):Prop where
 at_:PySem.W.findIn K (.ref C) m=some (some (.ref f))
 fn:PySem.W.isFn K (.ref f) = true
 kp:PySem.W.keepIn K (.ref f) = true
section
variable {X:Cx}{pins:List (Addr × Obj)}{σ:St}{H:Hp}{s:Shared}{a C dx:Addr}{fs:List (Str × V)}{f:Str}{v:V}{A:Around}{E:Value->Shared->Prop}
theorem getattr_ok {b:Bool}{Q:Value->Shared->Prop}(I:Inv X pins σ H s)(e:H a=some (.ins C dx fs))(c:Cls X.K C)(n:a8m X.K C f)(l:fs.lookup f=some v)
  (h:∀ u s',Inv X pins σ H s'->a6j v u->Q u s'):wpAny (model X.prog X.w) A (getAttr (.ref a) f b) Q E s:=by
 obtain ⟨mA,O,r,_,_,_⟩:=d6g I.hok e;obtain ⟨u,hu,ru⟩:=RelO.some_of (v:=v) (o:=mA f) (by rw [<- l]; exact r f);exact get_map I.kIn O (c.get f) c.hd n hu (handed_of ru) (h u _ (I.tok _) ru)
theorem d4y {m:Str}{g:Addr}{Q:Value × List Value->Shared->Prop}(I:Inv X pins σ H s)(e:H a=some (.ins C dx fs))(c:Cls X.K C)(k:Meth X.K C m g)(l:fs.lookup m=none)
  (h:Q (.ref g,[.ref a]) s):wpAny (model X.prog X.w) A (getMethod (.ref a) m pl) Q E s:=by
 obtain ⟨mA,O,r,_,_,_⟩:=d6g I.hok e;have hn:mA m=none:=RelO.none_of (by rw [<- l]; exact r m);exact get_meth I.kIn O (c.get m) k.at_ k.fn hn h
theorem setattr_ok {y:V}{Q:Unit->Shared->Prop}(I:Inv X pins σ H s)(e:H a=some (.ins C dx fs))(c:Cls X.K C)(n:a8m X.K C f)(hl:fs.length < 1000)(ry:a6j y u)
  (h:∀ s',Inv X pins σ (upd H a (.ins C dx (c5j f y fs))) s'->Q () s'):wpAny (model X.prog X.w) A (setAttr (.ref a) f u) Q E s:=by
 obtain ⟨mA,O,r,wi,_,ho⟩:=d6g I.hok e;have hz:(fs.map (·.1)).length <= sizeLine:=by rw [List.length_map,sizeLine_eq]; omega
 refine set_map I.kIn O c.sa c.po n.taker c.hd wi hz fun h' O' sb=>h _ ?_;have hd:∃ o,h'.get? dx=some o:=let ⟨o,_,_,e',_⟩:=O'.ns; ⟨o,e'⟩;refine I.write (x:=a) (e:=dx) (by rw [e]; exact True.intro) (.inr ho) (fun b q hb z=>(sb.2 b hb).trans z) hd ?_;refine ⟨by rw [a0q O.ne]; exact ho,?_,O.ne,O'.obj,_,O'.ns,fun g=>?_,fun g hg=>?_⟩
 ·have:=b1y f y fs; omega
 ·show RelO ((c5j f y fs).lookup g) (if g=f then some u else mA g);rw [d0s]
  by_cases q:g=f
  ·rw [if_pos q,if_pos q]; exact ry
  ·rw [if_neg q,if_neg q]; exact r g
 ·by_cases q:g=f
  ·rw [q]; exact (d1c f y fs).1
  ·refine (d1c f y fs).2 g (wi g fun z=>hg ?_);show (if g=f then some u else mA g) = none;rw [if_neg q]; exact z
theorem Inv.made (I:Inv X pins σ H s):Inv X pins σ (upd (upd H s.heap.objs.size (.own (s.heap.objs.size + 1))) (s.heap.objs.size + 1) (.ins C s.heap.objs.size []))
  { s with heap:=(s.heap.push PySem.W.emptyDict).push (PySem.W.instObj C s.heap.objs.size) }:=by
 have e1:(s.heap.push PySem.W.emptyDict).get? s.heap.objs.size=some PySem.W.emptyDict:=Heap.get?_push_size s.heap rfl
 have e2:((s.heap.push PySem.W.emptyDict).push (PySem.W.instObj C s.heap.objs.size)).get? (s.heap.objs.size + 1) = some (PySem.W.instObj C s.heap.objs.size):=by
  have:=Heap.get?_push_size (s.heap.push PySem.W.emptyDict) (o:=PySem.W.instObj C s.heap.objs.size) rfl
  rwa [Heap.size_push] at this
 have e3:(s.heap.push PySem.W.emptyDict).Ns s.heap.objs.size (fun _=>none):=⟨PySem.W.emptyDict,#[],_,e1,rfl,(fun e he=>absurd he (by simp)),fun _=>rfl⟩;have I1:=I.laid (a:=s.heap.objs.size) (o:=.own (s.heap.objs.size + 1)) (h':=s.heap.push PySem.W.emptyDict) (t':=s.toks) (fun b u q=>Heap.get?_push_of_some _ q) (Nat.le_refl _) ⟨_,e1⟩;refine I1.laid (a:=s.heap.objs.size + 1) (o:=.ins C s.heap.objs.size []) (t':=s.toks) (fun b u q=>Heap.get?_push_of_some _ q) (Nat.le_of_eq (Heap.size_push _ _)) ?_;have ne:s.heap.objs.size ≠ s.heap.objs.size + 1:=Nat.ne_of_lt (Nat.lt_succ_self _);refine ⟨by rw [a0q ne,a0c],Nat.zero_le _,ne,e2,fun _=>none,(Heap.Ns1.of_empty e3).at fun o q=>Heap.get?_push_of_some _ q,fun _=>True.intro,fun y hy=>absurd rfl hy⟩
theorem attr_of {prog:Program}{w:World}{env:Env}{e:Expr}{f:Str}{pos:Pos}{s:Shared}{Q:Value->Shared->Prop}(hb:attributeBase e f env (eval e env) = eval e env)
  (h:wpAny (model prog w) A (eval e env) (fun o s₁=>wpAny (model prog w) A (getAttr o f true) Q E s₁) E s):wpAny (model prog w) A (eval (.Attribute e f pos) env) Q E s:=
 Attribute_any_ h (by rw [arm_eval_Attribute,hb])
end
def tFld (K:PySem.W.Frag)(ta:TE)(f:Str):TE:=fun σ H Q=>ta σ H fun x H1=>∃ a C dx fs v,x=.ref a/\H1 a=some (.ins C dx fs)/\Cls K C/\a8m K C f/\fs.lookup f=some v/\Q v H1
def sFld (K:PySem.W.Frag)(ta tv:TE)(f:Str):TS:=fun D σ H=>tv σ H fun y H1=>ta σ H1 fun x H2=>∃ a C dx fs,x=.ref a/\H2 a=some (.ins C dx fs)/\Cls K C/\a8m K C f/\fs.length < 1000/\
 D.nx σ (upd H2 a (.ins C dx (c5j f y fs)))
section
variable {X:Cx}{o e value:Expr}{f:Str}{pos pos' tpos:Pos}{ta tv:TE}
theorem a2y (he:PE X e ta)(hb:attributeBase e f X.env (eval e X.env) = eval e X.env):PE X (.Attribute e f pos) (tFld X.K ta f):=by
 intro pins s σ H Q I h;refine attr_of hb (thn (he pins s σ H _ I h) fun u s1 ⟨x,H1,I1,rx,a,C,dx,fs,v,ex,ea,c,n,l,q⟩=>?_);subst ex;obtain rfl:u=Value.ref a:=rx;exact getattr_ok I1 ea c n l fun u' s2 I2 ru=>⟨v,H1,I2,ru,q⟩
theorem b4v (ha:PE X o ta)(hv:PE X value tv)(hs:swapsWith value (some (.Attribute o f pos')) pos.line X.env=pure false):PS X (.Assign [.Attribute o f pos'] value pos) (sFld X.K ta tv f):=by
 intro pins s σ H D I h;refine plainObj_wpAny_Assign_Attribute (thn (hv pins s σ H _ I h) fun u s1 ⟨y,H1,I1,ry,q⟩=>thn (ha pins s1 σ H1 _ I1 q) fun ov s2 ⟨x,H2,I2,rx,a,C,dx,fs,ex,ea,c,n,l,q2⟩=>?_) hs;subst ex;obtain rfl:ov=Value.ref a:=rx;exact setattr_ok I2 ea c n l ry fun s3 I3=>⟨σ,_,I3,q2⟩
end
section
variable {X:Cx}{pins:List (Addr × Obj)}{σ:St}{H:Hp}{s:Shared}{A:Around}{E:Value->Shared->Prop}{Q:Value->Shared->Prop}{c:Value}{b:Bool}
inductive a8a (K:PySem.W.Frag) (H:Hp):V->Value->Prop where
 | non:a8a K H .non (.type "NoneType")
 | bl (x:Bool):a8a K H (.bl x) (.type "bool")
 | int (i:Int):a8a K H (.int i) (.type "int")
 | str (x:Str):a8a K H (.str x) (.type "str")
 | flt (x:UInt64):a8a K H (.flt x) (.type "float")
 | lst {a:Addr} {xs:List V} (e:H a=some (.lst xs)):a8a K H (.ref a) (.type "list")
 | frz {a:Addr} {o:Obj} {xs:List V} (e:H a=some (.frz o (.lst xs))):a8a K H (.ref a) (.type "list")
 | tup {a:Addr} {xs:List V} (e:H a=some (.tup xs)):a8a K H (.ref a) (.type "tuple")
 | dK {a:Addr} {kvs:List (Key × V)} (e:H a=some (.dK kvs)):a8a K H (.ref a) (.type "dict")
 | dT {a:Addr} {kvs:List (List Key × V)} (e:H a=some (.dT kvs)):a8a K H (.ref a) (.type "dict")
 | ins {a C dx:Addr} {fs:List (Str × V)} (e:H a=some (.ins C dx fs)) (cl:Cls K C) (ha:PySem.W.findIn K (.ref C) "__class__" = some (some (.builtin "object.__class__")))
   (hn:PySem.W.specialIn K (.builtin "object.__class__") "__get__" = some (some (.builtin "getset_descriptor.__get__"))) (htk:PySem.W.takesIn K (.builtin "object.__class__") = some true)
   (hm:PySem.W.mroIn K C (.type "object") = some true):a8a K H (.ref a) (.ref C)
theorem isinst_ok {x:V}{t:Value}(I:Inv X pins σ H s)(rx:a6j x u)(ty:a8a X.K H x t)(e:PySem.W.kitOne X.K t c=some b)(h:∀ tk,Q (.bool b) { s with toks:=tk }) :
  wpAny (model X.prog X.w) A (call (.builtin "isinstance") [u,c]) Q E s:=by
 cases ty with
 | non=>cases (show u=Value.none from rx); exact PySem.W.kia_one PySem.W.kitx_none I.kIn True.intro e (fun z=>nomatch z) h
 | bl y=>cases (show u=Value.bool y from rx); exact PySem.W.kia_one PySem.W.kitx_bool I.kIn True.intro e (fun z=>nomatch z) h
 | int i=>obtain ⟨t,q⟩:=(show ∃ t,u=Value.int i t from rx); cases q; exact PySem.W.kia_one PySem.W.kitx_int I.kIn True.intro e (fun z=>nomatch z) h
 | str y=>obtain ⟨t,q⟩:=(show ∃ t,u=Value.str y t from rx); cases q; exact PySem.W.kia_one PySem.W.kitx_str I.kIn True.intro e (fun z=>nomatch z) h
 | flt y=>obtain ⟨t,q⟩:=(show ∃ t,u=Value.float y t from rx); cases q; exact PySem.W.kia_one PySem.W.kitx_float I.kIn True.intro e (fun z=>nomatch z) h
 | @lst a xs ea=>
  cases (show u=Value.ref a from rx);obtain ⟨_,_,n,_,h1⟩:=(show a6c X.prog X.w H s.heap a (.lst xs) from I.hok a _ ea);exact PySem.W.kia_one PySem.W.kitx_list I.kIn ⟨_,h1,rfl⟩ e (fun z=>nomatch z) h
 | @frz a ob xs ea=>
  cases (show u=Value.ref a from rx);obtain ⟨_,_,_,n,_,h1⟩:=(show a6c X.prog X.w H s.heap a (.frz ob (.lst xs)) from I.hok a _ ea);exact PySem.W.kia_one PySem.W.kitx_list I.kIn ⟨_,h1,rfl⟩ e (fun z=>nomatch z) h
 | @tup a xs ea=>
  cases (show u=Value.ref a from rx);obtain ⟨_,_,_,p⟩:=(show a6c X.prog X.w H s.heap a (.tup xs) from I.hok a _ ea);obtain ⟨o,h1,h2,_⟩:=p;exact PySem.W.kia_one PySem.W.kitx_tuple I.kIn ⟨o,h1,h2⟩ e (fun z=>nomatch z) h
 | @dK a kvs ea=>
  cases (show u=Value.ref a from rx);obtain ⟨_,_,vs,_,p⟩:=(show a6c X.prog X.w H s.heap a (.dK kvs) from I.hok a _ ea);obtain ⟨o,es,ep,h1,h2,_⟩:=p;exact PySem.W.kia_one PySem.W.kitx_dict I.kIn ⟨o,h1,h2.1⟩ e (fun z=>nomatch z) h
 | @dT a kvs ea=>
  cases (show u=Value.ref a from rx);obtain ⟨_,_,xs,_,o,es,ep,h1,h2,_⟩:=(show a6c X.prog X.w H s.heap a (.dT kvs) from I.hok a _ ea);exact PySem.W.kia_one PySem.W.kitx_dict I.kIn ⟨o,h1,h2.1⟩ e (fun z=>nomatch z) h
 | @ins a C dx fs ea cl ha hn htk hm=>
  cases (show u=Value.ref a from rx);obtain ⟨mA,O,_⟩:=d6g I.hok ea;obtain ⟨od,J,_⟩:=O.look;exact PySem.W.kia_one (PySem.W.kitx_own (cl.get _) cl.hd ha hn htk hm) I.kIn J e (fun z=>nomatch z) h
end
end L2
namespace L2
open PySem PySem.Spec PyProof.Rows
variable {C f:Addr}{A:Around}{H:Hp}{pins:List (Addr × Obj)}{kw:List (Str × Value)}{ps:List Str}{vs:List V}{us:List Value}{k:Nat}{P:Program}{K:PySem.W.Frag}{scope:Scope}{s:Shared}{σ:St}{qual:Str}{Q:VK}
structure b4y (k:Nat)(A:Around):Prop where
 hd:A.handled=none
 dp:A.depth + 3 * k + 5 < recursionLimit
 un:A.units + 16 * k + 200 < cLine
theorem b4y.mono {j:Nat}(r:b4y k A)(h:j <= k):b4y j A:=⟨r.hd,by have:=r.dp; omega,by have:=r.un; omega⟩
theorem b4y.deeper {k:Nat}{A:Around}(r:b4y (k + 1) A)(env:Env):b4y k (A.deeper env):=
 ⟨r.hd,by have:=r.dp; show A.depth + 1 + 3 * k + 5 < _; omega,by have:=r.un; show A.units + 3 + 16 * k + 200 < _; omega⟩
theorem make_depth :(A.under (.builtin "type.__call__" ⟨.ref C :: us,kw⟩)).depth=A.depth + 1:=by
 first | rfl | simp [Around.under,Code.weight,Code.isCreation,Code.isGuard,Code.isCaller,Code.frames,Code.isFrame,guardIds]
theorem make_units :(A.under (.builtin "type.__call__" ⟨.ref C :: us,kw⟩)).units=A.units + 1:=by
 first | rfl | simp [Around.under,Code.cUnits,Code.frames,Code.isFrame]
theorem b4y.make (r:b4y (k + 1) A)(C:Addr)(us:List Value)(kw:List (Str × Value)):b4y k (A.under (.builtin "type.__call__" ⟨.ref C :: us,kw⟩)):=
 ⟨r.hd,by have:=r.dp; rw [make_depth]; omega,by have:=r.un; rw [make_units]; omega⟩
theorem b4y.depth {k:Nat}{A:Around}(r:b4y k A):A.depth < recursionLimit:=by have:=r.dp; omega
theorem b4y.units {k:Nat}{A:Around}(r:b4y k A):A.units + 64 < cLine:=by have:=r.un; omega
def tNil:TA:=fun _ H Q=>Q [] H
def b9v (ta:TE)(tr:TA):TA:=fun σ H Q=>ta σ H fun x H1=>tr σ H1 fun xs H2=>Q (x :: xs) H2
section
variable {X:Cx}{e:Expr}{es:List Expr}{te:TE}{t:TA}{pos:Pos}
theorem a0d:PA X [] tNil:=fun _ _ _ _ H Q I h=>Calls.spliced_nil ⟨[],H,I,.nil,h⟩
theorem a0a (ha:PE X e te)(hr:PA X es t)(hs:starEach (e :: es) X.env=(false,eval e X.env) :: starEach es X.env:=by rfl):PA X (e :: es) (b9v te t):=by
 intro pos pins s σ H Q I h;rw [hs];show wpAny _ _ (spliced ((false,eval e X.env) :: backTo pos (starEach es X.env))) _ _ s;refine Calls.spliced_cons (thn (ha pins s σ H _ I h) fun u s1 ⟨x,H1,I1,r1,q1⟩=>?_);exact thn (hr pos pins s1 σ H1 _ I1 q1) fun us s2 ⟨xs,H2,I2,r2,q2⟩=>⟨x :: xs,H2,I2,.cons r1 r2,q2⟩
def tTup (t:TA):TE:=fun σ H Q=>t σ H fun xs H1=>xs.length <= sizeLine/\∀ p,H1 p=none->Q (.ref p) (upd H1 p (.tup xs))
def tLst (t:TA):TE:=fun σ H Q=>t σ H fun xs H1=>xs.length <= sizeLine/\∀ p,H1 p=none->Q (.ref p) (upd H1 p (.lst xs))
theorem a1w {x1}(h:PA X es t):PE X (.Tuple es x1 pos) (tTup t):=by
 intro pins s σ H Q I hq;refine wpAny_Tuple_spliced (thn (h pos pins s σ H _ I hq) fun us s1 ⟨xs,H1,I1,r,z,q⟩=>⟨by rw [<- r.length]; exact z,?_⟩);have hf:H1 s1.heap.objs.size=none:=I1.hok.fresh (Nat.le_refl _);refine ⟨.ref s1.heap.objs.size,upd H1 s1.heap.objs.size (.tup xs),I1.laid (t':=s1.toks) (fun b u e=>Heap.get?_push_of_some _ e) (Nat.le_refl _) ?_,rfl,q _ hf⟩;exact ⟨z,us,r,⟨_,Heap.get?_push_size _ rfl,rfl,_,rfl⟩⟩
theorem a5x (h:PA X es t):PE X (.List es pos) (tLst t):=by
 intro pins s σ H Q I hq;refine wpAny_List_spliced (thn (h pos pins s σ H _ I hq) fun us s1 ⟨xs,H1,I1,r,z,q⟩=>⟨by rw [<- r.length]; exact z,?_⟩);have hf:H1 s1.heap.objs.size=none:=I1.hok.fresh (Nat.le_refl _);refine ⟨.ref s1.heap.objs.size,upd H1 s1.heap.objs.size (.lst xs),I1.laid (t':=s1.toks) (fun b u e=>Heap.get?_push_of_some _ e) (Nat.le_refl _) ?_,rfl,q _ hf⟩;exact ⟨z,us,0,r,Heap.get?_push_size _ rfl⟩
end
abbrev Sp:=List V->Hp->VK->XK->Prop
abbrev CXT:=List Env->Hp->Shared->XK->Value->Shared->Prop
structure Env0 (P:Program)(w:World)(K:PySem.W.Frag)(mg:Str->Option Value)(base:Heap)(A:Around)(outer:List Env)(s:Shared)(H:Hp):Prop where
 frames:A.frames=some outer
 mod:Mod K mg base
 bs:∀ b o,base.get? b=some o->s.heap.get? b=some o/\H b=none
 bsz:base.objs.size <= s.heap.objs.size
 funs:s.heap.FunFrames base outer
 frf:∀ b ∈ frs outer,H b=none
 hok:HOk P w H s.heap
 bare:AllBare s.gens
def CE (outer:List Env)(P:Program)(w:World)(H:Hp)(s:Shared)(Q:VK)(u:Value)(s':Shared):Prop:=
 ∃ v H',s'.os=s.os/\AllBare s'.gens/\Un (frs outer) [] H H' s.heap s'.heap/\HOk P w H' s'.heap/\a6j v u/\Q v H'
def CR (CX:CXT)(outer:List Env)(P:Program)(w:World)(H:Hp)(s:Shared)(Q:VK)(E:XK)(r:Result)(s':Shared):Prop:=
 match r with
 | .ok (.ret u)=>CE outer P w H s Q u s'
 | .ok _=>False
 | .error e=>CX outer H s E e s'
structure a2s (P:Program)(w:World)(K:PySem.W.Frag)(mg:Str->Option Value)(base:Heap)(CX:CXT)(k:Nat)(f:Addr)(fd:FuncData)(ps:List Str)(sp:Sp):Prop where
 len:∀ vs H Q E,sp vs H Q E->vs.length=ps.length
 run:∀ (A:Around) (outer:List Env) (s:Shared) (H:Hp) (args:Args) (us:List Value) (vs:List V) (Q:VK) (E:XK),b4y k A->Env0 P w K mg base A outer s H->BindsTo s fd args (ps.zip us)->a6q vs us->sp vs H Q E->
  codeAny (model P w) A (.call (.ref f) args) (CR CX outer P w H s Q E) s
theorem a2s.mono {P:Program}{w:World}{K:PySem.W.Frag}{mg:Str->Option Value}{base:Heap}{CX:CXT}{j k:Nat}{f:Addr}{fd:FuncData}{ps:List Str}{sp:Sp}(F:a2s P w K mg base CX j f fd ps sp)(h:j <= k) :
  a2s P w K mg base CX k f fd ps sp:=⟨F.len,fun A outer s H args us vs Q E hr=>F.run A outer s H args us vs Q E (hr.mono h)⟩
theorem Env0.make {w:World}{mg:Str->Option Value}{base:Heap}{outer:List Env}(e:Env0 P w K mg base A outer s H)(C:Addr)(us:List Value)(kw:List (Str × Value)) :
  Env0 P w K mg base (A.under (.builtin "type.__call__" ⟨.ref C :: us,kw⟩)) outer s H:=⟨by first | exact e.frames | (simpa [Around.under,Code.envs,Code.isFrame,pushEnvs] using e.frames),e.mod,e.bs,e.bsz,e.funs,e.frf,e.hok,e.bare⟩
section
variable {X:Cx}{pins:List (Addr × Obj)}{σ:St}{H:Hp}{s s':Shared}
theorem Inv.env0 (I:Inv X pins σ H s):Env0 X.prog X.w X.K X.mg X.base X.A X.stack s H:=
 ⟨I.ok.frames,I.ok.mod,I.bs,Nat.le_trans I.ok.bsz I.sz,I.stack,I.stkFree,I.hok,I.bare⟩
theorem Inv.after {u:Value}(I:Inv X pins σ H s)(h:CE X.stack X.prog X.w H s Q u s'):EP X pins σ Q u s':=by
 obtain ⟨v,H',os,bare,un,hok,r,q⟩:=h;obtain ⟨hh,g,d,t,os'⟩:=s';obtain rfl:os' = s.os:=os;exact ⟨v,H',I.call (h':=hh) (g':=g) (d':=d) (t':=t) (ch:=[]) un hok bare (fun b z=>absurd z (by simp)),r,q⟩
end
def tCall (sp:Sp)(dvs:List V)(E:XK)(t:TA):TE:=fun σ H Q=>t σ H fun vs H1=>sp (vs ++ dvs) H1 Q E
def tMake (C:Addr)(sp:Sp)(dvs:List V)(E:XK)(t:TA):TE:=fun σ H Q=>t σ H fun vs H1=>∀ x dx,H1 x=none->H1 dx=none->dx ≠ x->
 sp (.ref x :: (vs ++ dvs)) (upd (upd H1 dx (.own x)) x (.ins C dx [])) (fun v H2=>v=.non/\Q (.ref x) H2) E
def c1u (K:PySem.W.Frag)(fd:FuncData)(ps:List Str)(ds:List Value):Prop:=
 ∀ (s:Shared) (us:List Value),K.In s.heap->(us ++ ds).length=ps.length->BindsTo s fd ⟨us,[]⟩ (ps.zip (us ++ ds))
theorem c1u.all {fd:FuncData}(h:∀ us:List Value,us.length=ps.length->bindArgs fd ⟨us,[]⟩ = pure (ps.zip us)):c1u K fd ps []:=fun s us _ hl=>by
 rw [List.append_nil] at hl ⊢;exact .of_eq (h us hl)
def b4r (CX:CXT)(X:Cx)(E:XK):Prop:=∀ (pins:List (Addr × Obj)) (σ:St) (H:Hp) (s:Shared) (e:Value) (s':Shared),Inv X pins σ H s->CX X.stack H s E e s'->X.xe e s'
section
variable {X:Cx}{CX:CXT}{k:Nat}{f C:Addr}{fd:FuncData}{ps:List Str}{sp:Sp}{dvs:List V}{ds:List Value}{E:XK}{x m:Str}{p pos apos:Pos}{e o:Expr}{es:List Expr}{ta:TE}{t:TA}
theorem run_fn (F:a2s X.prog X.w X.K X.mg X.base CX k f fd ps sp)(hr:b4y k X.A)(hb:c1u X.K fd ps ds)(hd:a6q dvs ds)(hx:b4r CX X E)
  (I:Inv X pins σ H s) (r:a6q vs us) (h:sp (vs ++ dvs) H Q E):wpAny (model X.prog X.w) X.A (call (.ref f) us) (EP X pins σ Q) X.xe s:=by
 have r2:a6q (vs ++ dvs) (us ++ ds):=r.append hd;have hl:(us ++ ds).length=ps.length:=by rw [<- r2.length]; exact F.len _ _ _ _ h
 refine wpAny_call (codeAny_mono (F.run X.A X.stack s H ⟨us,[]⟩ (us ++ ds) (vs ++ dvs) Q E hr I.env0 (hb s us I.kIn hl) r2 h) fun r s' hq=>?_)
 cases r with
 | error e=>exact hx pins σ H s e s' I hq
 | ok fl=>
  cases fl with
  | ret u=>exact I.after hq
  | next=>exact False.elim hq
  | brk=>exact False.elim hq
  | cont=>exact False.elim hq
theorem pe_call (F:a2s X.prog X.w X.K X.mg X.base CX k f fd ps sp)(hr:b4y k X.A)(hg:Gl X x)(hm:X.mg x=some (.ref f))(hk:PySem.W.keepIn X.K (.ref f) = true)(hb:c1u X.K fd ps ds)(hd:a6q dvs ds)(hx:b4r CX X E)
  (ha:PA X (e :: es) t) (hdb:(x == ("__debug__":Str)) = false:=by decide) (he:starEach (e :: es) X.env=(false,eval e X.env) :: starEach es X.env:=by rfl) (hpl:(backTo pos (starEach es X.env)).any (·.1) = false:=by rfl) :
  PE X (.Call (.Name x p) (e :: es) [] pos) (tCall sp dvs E t):=by
 intro pins s σ H Q I h;refine wpAny_Call_Name_kw (b7j I hg hm ?_ hdb);refine PySem.W.callWith_K (h₀:=X.base) I.ok.mod.kin hk (thn (ha pos pins s σ H _ I h) fun us s1 ⟨vs,H1,I1,r,q⟩=>⟨I1.kIn,?_⟩) he hpl;exact run_fn F hr hb hd hx I1 r q
structure Mk (K:PySem.W.Frag)(C f:Addr):Prop where
 makes:PySem.W.makesIn K C=true
 init:PySem.W.findIn K (.ref C) "__init__" = some (some (.ref f))
 fn:PySem.W.isFn K (.ref f) = true
 kp:PySem.W.keepIn K (.ref C) = true
theorem run_make (M:Mk X.K C f)(F:a2s X.prog X.w X.K X.mg X.base CX k f fd ps sp)(hr:b4y (k + 1) X.A)(hb:c1u X.K fd ps ds)(hd:a6q dvs ds)
  (hx:b4r CX X E) (I:Inv X pins σ H s) (r:a6q vs us)
  (h:∀ x dx,H x=none->H dx=none->dx ≠ x->sp (.ref x :: (vs ++ dvs)) (upd (upd H dx (.own x)) x (.ins C dx [])) (fun v H2=>v=.non/\Q (.ref x) H2) E) :
  wpAny (model X.prog X.w) X.A (call (.ref C) us) (EP X pins σ Q) X.xe s:=by
 have hq:=h (s.heap.objs.size + 1) s.heap.objs.size (I.hok.fresh (Nat.le_succ _)) (I.hok.fresh (Nat.le_refl _)) (Nat.ne_of_lt (Nat.lt_succ_self _));have I2:=Inv.made (C:=C) I;have r2:a6q (V.ref (s.heap.objs.size + 1) :: (vs ++ dvs)) (Value.ref (s.heap.objs.size + 1) :: (us ++ ds)):=.cons rfl (r.append hd)
 have hl:(Value.ref (s.heap.objs.size + 1) :: us ++ ds).length=ps.length:=by
  have e:=r2.length;rw [F.len _ _ _ _ hq] at e;exact e.symm
 refine wpAny_call (make_map (f:=f) I.kIn M.makes M.init (beq_iff_eq.mp M.fn) (codeAny_mono (F.run _ X.stack _ _ ⟨Value.ref (s.heap.objs.size + 1) :: us,[]⟩ (Value.ref (s.heap.objs.size + 1) :: (us ++ ds)) _ _ E (hr.make C us [])
  (I2.env0.make C us []) (hb _ (Value.ref (s.heap.objs.size + 1) :: us) I2.kIn hl) r2 hq) fun r s' hq'=>?_))
 cases r with
 | error e=>exact hx pins σ _ _ e s' I2 hq'
 | ok fl=>
  cases fl with
  | ret u=>
   obtain ⟨v,H',I3,rv,ev,q3⟩:=I2.after hq';subst ev;exact ⟨rv,⟨V.ref (s.heap.objs.size + 1),H',I3,rfl,q3⟩⟩
  | next=>exact False.elim hq'
  | brk=>exact False.elim hq'
  | cont=>exact False.elim hq'
theorem pe_make (M:Mk X.K C f)(F:a2s X.prog X.w X.K X.mg X.base CX k f fd ps sp)(hr:b4y (k + 1) X.A)(hg:Gl X x)(hm:X.mg x=some (.ref C))(hb:c1u X.K fd ps ds)(hd:a6q dvs ds)(hx:b4r CX X E)
  (ha:PA X (e :: es) t) (hdb:(x == ("__debug__":Str)) = false:=by decide) (he:starEach (e :: es) X.env=(false,eval e X.env) :: starEach es X.env:=by rfl) (hpl:(backTo pos (starEach es X.env)).any (·.1) = false:=by rfl) :
  PE X (.Call (.Name x p) (e :: es) [] pos) (tMake C sp dvs E t):=by
 intro pins s σ H Q I h;refine wpAny_Call_Name_kw (b7j I hg hm ?_ hdb);refine PySem.W.callWith_K (h₀:=X.base) I.ok.mod.kin M.kp (thn (ha pos pins s σ H _ I h) fun us s1 ⟨vs,H1,I1,r,q⟩=>⟨I1.kIn,?_⟩) he hpl;exact run_make M F hr hb hd hx I1 r q
end
section
variable {X:Cx}{CX:CXT}{k:Nat}{f C:Addr}{fd:FuncData}{ps ks:List Str}{sp:Sp}{E:XK}{x m:Str}{p pos apos kpos:Pos}{e o:Expr}{es:List Expr}{kws:List Keyword}{te ta:TE}{t tk:TA}{nm:Option Str}
variable {g:List Value->List Value->List Value}{gV:List V->List V->List V}
end
structure a0r (N P:List Str)(sc:Scope):Prop where
 kind:sc.kind=.function
 co:sc.isCoroutine=false
 gen:sc.isGenerator=false
 nd:N.Nodup
 pre:N.take P.length=P
 par:∀ x ∈ P,sc.names.lookup x=some .local\/sc.names.lookup x=some .cell
 nofree:∀ y ∈ sc.names,y.2 ≠ .free
theorem bindL_out {kindOf:Str->Option NameKind}{x:Str}:∀ {binds:List (Str × Value)} {m:Str->Option Value},(∀ v,(x,v) ∉ binds)->bindL kindOf binds m x=m x
 | [],_,_=>rfl
 | (n,v) :: r,m,h=>by
  unfold bindL;rw [bindL_out fun w hw=>h w (List.mem_cons_of_mem _ hw)]
  split
  ·have:x ≠ n:=by rintro rfl; exact h v List.mem_cons_self
   simp [this]
  ·rfl
theorem bindC_out {kindOf:Str->Option NameKind}{x:Str}:∀ {binds:List (Str × Value)} {m:Str->Option Value},(∀ v,(x,v) ∉ binds)->bindC kindOf binds m x=m x
 | [],_,_=>rfl
 | (n,v) :: r,m,h=>by
  unfold bindC;rw [bindC_out fun w hw=>h w (List.mem_cons_of_mem _ hw)]
  split
  ·rfl
  ·have:x ≠ n:=by rintro rfl; exact h v List.mem_cons_self
   simp [this]
theorem bindL_get {kindOf:Str->Option NameKind}{x:Str}{v:Value}:∀ {P:List Str} {vs:List Value} {i:Nat} {m:Str->Option Value},P.Nodup->P[i]? = some x->vs[i]? = some v->kindOf x=some .local->
  bindL kindOf (P.zip vs) m x=some v
 | [],_,_,_,_,h,_,_=>by simp at h
 | _ :: _,[],_,_,_,_,h,_=>by simp at h
 | p :: P,w :: vs,0,m,nd,h1,h2,hk=>by
  simp at h1 h2; subst h1; subst h2;show bindL kindOf ((p,w) :: P.zip vs) m p=_;unfold bindL;rw [bindL_out fun v hv=>(List.nodup_cons.mp nd).1 (List.of_mem_zip hv).1,if_pos hk];simp
 | p :: P,w :: vs,i + 1,m,nd,h1,h2,hk=>by
  show bindL kindOf ((p,w) :: P.zip vs) m x=_;unfold bindL;exact bindL_get (i:=i) (List.nodup_cons.mp nd).2 (by simpa using h1) (by simpa using h2) hk
theorem bindC_get {kindOf:Str->Option NameKind}{x:Str}{v:Value}:∀ {P:List Str} {vs:List Value} {i:Nat} {m:Str->Option Value},P.Nodup->P[i]? = some x->vs[i]? = some v->kindOf x ≠ some .local->
  bindC kindOf (P.zip vs) m x=some v
 | [],_,_,_,_,h,_,_=>by simp at h
 | _ :: _,[],_,_,_,_,h,_=>by simp at h
 | p :: P,w :: vs,0,m,nd,h1,h2,hk=>by
  simp at h1 h2; subst h1; subst h2;show bindC kindOf ((p,w) :: P.zip vs) m p=_;unfold bindC;rw [bindC_out fun v hv=>(List.nodup_cons.mp nd).1 (List.of_mem_zip hv).1,if_neg hk];simp
 | p :: P,w :: vs,i + 1,m,nd,h1,h2,hk=>by
  show bindC kindOf ((p,w) :: P.zip vs) m x=_;unfold bindC;exact bindC_get (i:=i) (List.nodup_cons.mp nd).2 (by simpa using h1) (by simpa using h2) hk
def start (N:List Str)(vs:List V):St:=vs.map some ++ List.replicate (N.length - vs.length) none
def cxOf (CX:CXT)(P:Program)(w:World)(K:PySem.W.Frag)(mg:Str->Option Value)(base:Heap)(N:List Str)(qual:Str)(scope:Scope)(f:Addr)(cd:Value)(A:Around)(outer:List Env)(s:Shared)(H:Hp)(E:XK):Cx where
 prog:=P
 w:=w
 K:=K
 mg:=mg
 base:=base
 A:=A.deeper (envOfC qual scope s.heap.objs.size f cd)
 N:=N
 s₀:=s
 H₀:=H
 env:=envOfC qual scope s.heap.objs.size f cd
 outer:=outer
 stack:=envOfC qual scope s.heap.objs.size f cd :: outer
 ex:=[]
 calm:=true
 fn:=fun _=>true
 pn:=[]
 xe:=fun e s'=>wpAny (model P w) (A.deeper (envOfC qual scope s.heap.objs.size f cd)) (leaving (envOfC qual scope s.heap.objs.size f cd) e) (fun _ s''=>CX outer H s E e s'') (fun e' s''=>CX outer H s E e' s'') s'
theorem cell_has {sc:Scope}{n:Nat}{x:Str}(h:sc.names.lookup x=some .cell):∃ c,(cellsFrom n sc.names []).lookup x=some c:=by
 have q:=PySem.W.cellsFrom_some sc.names n [] (.inl h);exact Option.isSome_iff_exists.mp q
theorem inv_start {CX:CXT}{w:World}{mg:Str->Option Value}{base:Heap}{N:List Str}{cd:Value}{outer:List Env}{s1:Shared}{E:XK}
  (S:a0r N ps scope) (hd:A.handled=none) (e0:Env0 P w K mg base A outer s H) (hl:vs.length=ps.length) (r:a6q vs us)
  (x:InCallC s s.heap.objs.size (bindL (envOfC qual scope s.heap.objs.size f cd).kindOf (ps.zip us) fun _=>none) (cellsFrom (s.heap.objs.size + 1) scope.names []) (bindC (envOfC qual scope s.heap.objs.size f cd).kindOf (ps.zip us) fun _=>none) s1) :
  Inv (cxOf CX P w K mg base N qual scope f cd A outer s H E) [] (start N vs) H s1:=by
 have hpl:ps.length <= N.length:=by have:=congrArg List.length S.pre; rw [List.length_take] at this; omega
 obtain ⟨h1,tk,rfl,hk⟩:=x.done;have noA:∀ b:Addr,b ∉ (cxOf CX P w K mg base N qual scope f cd A outer s H E).ex:=fun b z=>absurd (show b ∈ ([]:List Addr) from z) (by simp)
 refine ⟨⟨e0.mod,S.kind,rfl,rfl,Nat.le_refl _,fun y z c h1 h2=>?_,fun y hy=>?_,fun y c _ h=>?_,fun _=>hd,Around.frames_deeper e0.frames,.inr ⟨rfl,rfl⟩,fun b z=>absurd z (noA b),e0.bs,e0.bsz,fun b _ _=>noA b,fun b z=>absurd z (noA b),e0.funs,e0.frf⟩,
  rfl,e0.bare,Un.kept hk,⟨_,x.toInCall.ns,fun i y v h1 h2 h3=>?_⟩,fun y c h=>⟨_,x.cell y c h⟩,e0.hok.fresh (Nat.le_refl _),fun y c h=>?_,fun p hp=>absurd (show p ∈ ([]:List (Addr × Obj)) from hp) (by simp),e0.hok.kept hk,?_⟩
 ·exact name_of_addr x.apart (PySem.mem_of_lookup h1) (PySem.mem_of_lookup h2)
 ·have hy:scope.names.lookup y=some .cell\/scope.names.lookup y=some .free:=hy
  rcases hy with hy | hy
  ·exact cell_has hy
  ·exact absurd rfl (S.nofree _ (PySem.mem_of_lookup hy))
 ·exact Nat.le_of_lt (x.above y c (PySem.mem_of_lookup h))
 ·have hi:i < vs.length:=by
   unfold start at h2
   by_cases hi:i < vs.length
   ·exact hi
   ·rw [List.getElem?_append_right (by simpa using hi)] at h2;rw [List.getElem?_replicate] at h2
    split at h2 <;> cases h2
  have ha:vs[i]? = some v:=by
   unfold start at h2;rw [List.getElem?_append_left (by simpa using hi),List.getElem?_map] at h2
   cases e:vs[i]? with
   | none=>rw [e] at h2; cases h2
   | some a=>rw [e] at h2; cases h2; rfl
  obtain ⟨u,hu,rv⟩:=r.get ha
  have hp:ps[i]? = some y:=by
   rw [<- S.pre,List.getElem?_take_of_lt (by omega)]; exact h1
  have ndP:ps.Nodup:=by rw [<- S.pre]; exact S.nd.sublist (List.take_sublist _ _)
  refine ⟨u,rv,?_⟩
  rcases S.par y (List.mem_of_getElem? hp) with k | k
  ·exact .inl ⟨k,bindL_get ndP hp hu k⟩
  ·obtain ⟨c,e⟩:=cell_has (n:=s.heap.objs.size + 1) k;refine .inr ⟨.inl k,c,e,?_⟩;have q:=x.cell y c e;rw [bindC_get ndP hp hu (by show scope.names.lookup y ≠ _; rw [k]; decide)] at q;exact q
 ·exact e0.hok.fresh (Nat.le_of_lt (x.above y c (PySem.mem_of_lookup h)))
 ·unfold start;show _=N.length;rw [List.length_append,List.length_map,List.length_replicate];omega
theorem fn_of {CX:CXT}{P:Program}{w:World}{mg:Str->Option Value}{base:Heap}{name:Str}{params:Arguments}{body:List Stmt}{dV kV doc pm cdv ct oc:Value}{an od:Option Addr}
  {osl:Array (Option Value)} {N ps:List Str} {sp:Sp} (lk:K.lookup f=some ⟨oc,od,.func (PySem.W.fnOf name qual params body scope dV kV doc pm an cdv ct),osl⟩) (hcd:PySem.W.codeIn K cdv qual=true) (S:a0r N ps scope)
  (len:∀ vs H Q E,sp vs H Q E->vs.length=ps.length)
  (hbody:∀ (A:Around) (outer:List Env) (s:Shared) (H:Hp) (vs:List V) (Q:VK) (E:XK),b4y k (A.deeper (envOfC qual scope s.heap.objs.size f cdv))->sp vs H Q E->
   ∃ t,PSs (cxOf CX P w K mg base N qual scope f cdv A outer s H E) body t/\t { nx:=fun _ H'=>Q .non H',rt:=Q } (start N vs) H) :
  a2s P w K mg base CX (k + 1) f (PySem.W.fnOf name qual params body scope dV kV doc pm an cdv ct) ps sp:=by
 refine ⟨len,fun A outer s H args us vs Q E hr e0 hb r hsp=>?_⟩;have hl:=len _ _ _ _ hsp;have KX:K.In s.heap:=e0.mod.kin.keeps fun b o e=>(e0.bs b o e).1;have lim:s.heap.NoLimit:=e0.mod.nolimit.keeps fun b o e=>(e0.bs b o e).1
 have hkind:∀ y ∈ ps.zip us,scope.names.lookup y.1=some .local\/(scope.names.lookup y.1=some .cell/\((cellsFrom (s.heap.objs.size + 1) scope.names []).lookup y.1).isSome=true):=fun ⟨n,v⟩ hy=>by
  rcases S.par n (List.of_mem_zip hy).1 with q | q
  ·exact .inl q
  ·exact .inr ⟨q,PySem.W.cellsFrom_some _ _ _ (.inl q)⟩
 refine codeAny_call_function hr.depth (KX _ _ lk) rfl S.co S.gen rfl (PySem.W.codeRec_of KX hcd) (hb _ _ _ _ ?_);refine wpAny_newFunctionEnv_cells S.kind hkind fun env he s1 x=>?_;subst he;refine ⟨lim.keeps x.toInCall.keep,codeAny_func ?_⟩;obtain ⟨t,ht,hq⟩:=hbody A outer s H vs Q E (hr.deeper _) hsp;have I:Inv (cxOf CX P w K mg base N qual scope f cdv A outer s H E) [] (start N vs) H s1:=inv_start S hr.hd e0 hl r x;refine wpAny_mono (ht [] s1 (start N vs) H _ I hq) (fun fl s' hs=>?_) fun e s' hs=>hs
 have fin:∀ {σ':St} {H':Hp} {v:V} {u:Value},Inv (cxOf CX P w K mg base N qual scope f cdv A outer s H E) [] σ' H' s'->a6j v u->Q v H'->CE outer P w H s Q u s':=
  fun {σ' H' v u} J rv q=>⟨v,H',J.os,J.bare,J.base,J.hok,rv,q⟩
 cases fl with
 | ret u=>
  obtain ⟨v,σ',H',J,rv,q⟩:=hs;exact fin J rv q
 | next=>
  obtain ⟨σ',H',J,q⟩:=hs;exact fin (v:=V.non) (u:=Value.none) J rfl q
 | brk=>
  obtain ⟨_,_,_,q⟩:=hs;exact False.elim q
 | cont=>
  obtain ⟨_,_,_,q⟩:=hs;exact False.elim q
end L2
namespace L2
open PySem PySem.Spec PyProof.Rows
section
variable {X:Cx}{x:Str}{p pos:Pos}{e:Expr}{es:List Expr}{t:TA}{id T:String}{r:List V->Hp->VK->Prop}
def tCB (r:List V->Hp->VK->Prop)(t:TA):TE:=fun σ H Q=>t σ H fun vs H1=>r vs H1 Q
theorem a2g (hc:b2t X (.builtin id) r)(hg:Gl X x)(hm:X.mg x=none)(hv:bootBuiltins x=some (.builtin id))(ha:PA X (e :: es) t)(hn:x ≠ "__name__":=by decide)(hdb:(x == ("__debug__":Str)) = false:=by decide)
  (he:starEach (e :: es) X.env=(false,eval e X.env) :: starEach es X.env:=by rfl) (hpl:(backTo pos (starEach es X.env)).any (·.1) = false:=by rfl):PE X (.Call (.Name x p) (e :: es) [] pos) (tCB r t):=by
 intro pins s σ H Q I h;refine wpAny_Call_Name_kw (ld_blt I hg hm hv ?_ hn hdb);exact PyProof.Rows.callWith_builtin1 (thn (ha pos pins s σ H _ I h) fun us s1 ⟨vs,H1,I1,r1,q1⟩=>hc pins s1 σ H1 vs us Q I1 r1 q1) he hpl
theorem a6x (hc:b2t X (.type T) r)(hg:Gl X x)(hm:X.mg x=none)(hv:bootBuiltins x=some (.type T))(ha:PA X (e :: es) t)(hn:x ≠ "__name__":=by decide)(hdb:(x == ("__debug__":Str)) = false:=by decide)
  (he:starEach (e :: es) X.env=(false,eval e X.env) :: starEach es X.env:=by rfl) (hpl:(backTo pos (starEach es X.env)).any (·.1) = false:=by rfl):PE X (.Call (.Name x p) (e :: es) [] pos) (tCB r t):=by
 intro pins s σ H Q I h;refine wpAny_Call_Name_kw (ld_blt I hg hm hv ?_ hn hdb);exact PyProof.Rows.callWith_type1 (thn (ha pos pins s σ H _ I h) fun us s1 ⟨vs,H1,I1,r1,q1⟩=>hc pins s1 σ H1 vs us Q I1 r1 q1) he hpl
end
end L2
namespace HT
open PySem PyProof.Rows
variable {sl:Addr}{hi lo:Option Int}{vl vu:Value}
section
open PySem.SeqAt
open PySem.AutoSeq1 (wpAny_loadPart')
open PySem.MeetsSeq PySem.MeetsSeq2 PySem.MeetsSeq3
end
section
variable {prog:Program}{w:World}{A:Around}{E:Value->Shared->Prop}{s:Shared}
def sIx (n d:Nat):Option Int->Nat
 | none=>d
 | some v=>if v < 0 then (v + (n:Int)).toNat else min v.toNat n
theorem sIx_none (n d:Nat):sIx n d none=d:=rfl
theorem sIx_nat (n d k:Nat):sIx n d (some (k:Int)) = min k n:=by
 show (if (k:Int) < 0 then ((k:Int) + (n:Int)).toNat else min (k:Int).toNat n) = min k n;rw [if_neg (by omega),Int.toNat_natCast]
theorem sIx_le (n d:Nat)(hd:d <= n)(o:Option Int):sIx n d o <= n:=by
 cases o with
 | none=>exact hd
 | some v=>
  show (if v < 0 then (v + (n:Int)).toNat else min v.toNat n) <= n
  by_cases hv:v < 0
  ·rw [if_pos hv]; omega
  ·rw [if_neg hv]; exact Nat.min_le_right _ _
theorem clip_eq (v:Int)(n d:Nat):(if v < 0 then max (v + (n:Int)) 0 else min v (n:Int)) = ((sIx n d (some v):Nat):Int):=by
 show (if v < 0 then max (v + (n:Int)) 0 else min v (n:Int)) = (((if v < 0 then (v + (n:Int)).toNat else min v.toNat n):Nat):Int)
 by_cases hv:v < 0
 ·simp only [if_pos hv]; omega
 ·simp only [if_neg hv]; omega
theorem adjust_gen (lo hi:Option Int)(n:Nat):Builtin.Slice.sliceAdjust lo hi 1 (n:Int) = (((sIx n 0 lo:Nat):Int),((sIx n n hi:Nat):Int)):=by
 have h1:¬ ((1:Int) < 0):=by omega
 unfold Builtin.Slice.sliceAdjust;simp only [h1,if_false];refine Prod.ext ?_ ?_
 ·cases lo with
  | none=>rfl
  | some v=>exact clip_eq v n 0
 ·cases hi with
  | none=>rfl
  | some v=>exact clip_eq v n n
theorem places_gen (i j:Nat):Builtin.Slice.slicePlaces (i:Int) (j:Int) 1=j - i:=by
 unfold Builtin.Slice.slicePlaces;have h1:(1:Int) > 0:=by omega
 simp only [h1,if_true,Int.ediv_one]
 split <;> omega
theorem d4z {v:Value}{o:Option Int}{Q:Option Int->Shared->Prop}(p:IsPart v o)(h:Q o s):wpAny (model prog w) A (Builtin.Slice.slicePartIndex v) Q E s:=by
 cases p with
 | none=>exact slicePart_none h
 | int i t=>exact slicePart_int h
theorem c7n {n:Nat}{Q:Int × Int × Nat->Shared->Prop}(hs:s.heap.IsSliceOf sl vl vu .none)(pl:IsPart vl lo)(pu:IsPart vu hi)
  (h:Q (((sIx n 0 lo:Nat):Int),1,sIx n n hi - sIx n 0 lo) s):wpAny (model prog w) A (Builtin.Slice.sliceApplied (.ref sl) (pure (n:Int))) Q E s:=by
 obtain ⟨os,hos,hcs,hds⟩:=id hs;unfold Builtin.Slice.sliceApplied Builtin.Slice.sliceFields;refine wpAny_bind (wpAny_bind (wpAny_field hos hds (x:=vl) rfl (wpAny_bind (wpAny_field hos hds (x:=vu) rfl (wpAny_bind (wpAny_field hos hds (x:=.none) rfl (wpAny_pure ?_)))))));refine wpAny_bind (slicePart_none ?_);show wpAny _ _ (if ((1:Int) == 0) = true then _ else _) _ _ s;rw [if_neg (by decide)];refine wpAny_bind (d4z pl (wpAny_bind (d4z pu (wpAny_bind (wpAny_pure ?_)))));show wpAny _ _ (match Builtin.Slice.sliceAdjust lo hi 1 (n:Int) with | (lo,hi)=>pure (lo,(1:Int),Builtin.Slice.slicePlaces lo hi 1)) _ _ s;rw [adjust_gen lo hi n];show wpAny _ _ (pure (((sIx n 0 lo:Nat):Int),(1:Int),Builtin.Slice.slicePlaces ((sIx n 0 lo:Nat):Int) ((sIx n n hi:Nat):Int) 1)) _ _ s;rw [places_gen];exact wpAny_pure h
theorem pick_gen (xs:Array Value)(i k:Nat):((List.range k).filterMap fun (m:Nat)=>xs[((i:Int) + (m:Int) * 1).toNat]?).toArray=((xs.toList.drop i).take k).toArray:=by
 have e:(fun (m:Nat)=>xs[((i:Int) + (m:Int) * 1).toNat]?) = fun m=>xs[i + m]?:=by
  funext m
  have:((i:Int) + (m:Int) * 1).toNat=i + m:=by omega
  rw [this]
 rw [e];have:=pick_run xs i k;rw [List.filterMap_map] at this;have e2:((fun x=>xs[x]?) ∘ fun x=>i + x) = fun m=>xs[i + m]?:=rfl;rw [e2] at this;rw [this]
theorem getItem_tuple_cut {t:Addr}{items:Array Value}{Q:Value->Shared->Prop}(ht:IsTup s.heap t items)(hs:s.heap.IsSliceOf sl vl vu .none)(pl:IsPart vl lo)(pu:IsPart vu hi)
  (hw:¬ (sIx items.size 0 lo=0/\sIx items.size items.size hi=items.size))
  (h:Q (.ref s.heap.objs.size) { s with heap:=s.heap.push { cls:=.type "tuple",data:=.seq ((items.toList.drop (sIx items.size 0 lo)).take (sIx items.size items.size hi - sIx items.size 0 lo)).toArray } })
  (hsz:items.size <= sizeLine):wpAny (model prog w) A (getItem (.ref t) (.ref sl)) Q E s:=by
 have htake:sizeOk (.seq ((items.toList.drop (sIx items.size 0 lo)).take (sIx items.size items.size hi - sIx items.size 0 lo)).toArray):=by
  show ((items.toList.drop (sIx items.size 0 lo)).take (sIx items.size items.size hi - sIx items.size 0 lo)).toArray.size <= sizeLine;rw [List.size_toArray,List.length_take,List.length_drop,Array.length_toList];omega
 have hj:sIx items.size items.size hi <= items.size:=sIx_le _ _ (Nat.le_refl _) hi;obtain ⟨os,hos,hcs,hds⟩:=id hs;have hTs:s.TypeIs (.ref sl) "slice":=⟨os,hos,hcs⟩;unfold getItem
 try with_reducible refine wpAny_holding ?_
 first | refine wpAny_bind (wpAny_pure ?_) | skip
 refine wpAny_bind (wpAny_sequenceKey ht.typeIs (by decide) ?_)
 refine wpAny_bind (wpAny_callSpecial?_slot (name:=Str.ofString "__getitem__") ht.typeIs PyProof.Rows.slot_tuple_getitem
  (wpAny_call_entry PyProof.Rows.slot_tuple_getitem ht.typeIs entry_tuple_getitem ?_ (args_tuple_getitem _ _)))
 show wpAny _ _ (Builtin.Tuple.tupleItemsOf (.ref t) >>= _) _ _ s;refine wpAny_bind (tupleItemsOf_ ht ?_);refine wpAny_bind (wpAny_typeOf hTs ?_);rw [if_pos (by decide)];refine wpAny_bind (c7n hs pl pu ?_)
 have hno:¬ ((((sIx items.size 0 lo:Nat):Int) == 0 && (1:Int) == 1 && (sIx items.size items.size hi - sIx items.size 0 lo) == items.size) = true):=by
  intro q;rw [Bool.and_eq_true,Bool.and_eq_true] at q;have q1:((sIx items.size 0 lo:Nat):Int) = 0:=eq_of_beq q.1.1;have q2:sIx items.size items.size hi - sIx items.size 0 lo=items.size:=eq_of_beq q.2;exact hw ⟨by omega,by omega⟩
 show wpAny _ _ (if (((sIx items.size 0 lo:Nat):Int) == 0 && (1:Int) == 1 && (sIx items.size items.size hi - sIx items.size 0 lo) == items.size) = true then _ else _) _ _ s;rw [if_neg hno,pick_gen]
 first
  | exact wpAny_bind (m:=Builtin.Tuple.tupleExact _) (wpAny_newObj_type (wpAny_pure ⟨_,rfl,wpAny_pure h⟩) htake)
  | exact wpAny_bind (m:=Builtin.Tuple.tupleExact _) (wpAny_newObj_type (wpAny_bind (wpAny_pure (wpAny_pure ⟨_,rfl,wpAny_pure h⟩))) htake)
  | exact wpAny_bind (wpAny_bind (m:=Builtin.Tuple.tupleExact _) (wpAny_newObj_type (wpAny_pure (wpAny_pure ⟨_,rfl,wpAny_pure h⟩)) htake))
  | exact wpAny_bind (wpAny_bind (m:=Builtin.Tuple.tupleExact _) (wpAny_newObj_type (wpAny_pure ⟨_,rfl,wpAny_pure h⟩) htake))
end
end HT
namespace L2
open PySem PySem.Spec PyProof.Rows
abbrev TO:=St->Hp->(Option Int->Hp->Prop)->Prop
def PO (X:Cx)(e:Option Expr)(t:TO):Prop:=
 ∀ (pins:List (Addr × Obj)) (s:Shared) (σ:St) (H:Hp) (Q:Option Int->Hp->Prop),Inv X pins σ H s->t σ H Q->
  wpAny (model X.prog X.w) X.A (evalPart e X.env) (fun u s'=>∃ o H',Inv X pins σ H' s'/\IsPart u o/\Q o H') X.xe s
def tNoPart:TO:=fun _ H Q=>Q none H
def tPart (t:TE):TO:=fun σ H Q=>t σ H fun x H1=>∃ i,x=.int i/\Q (some i) H1
section
variable {X:Cx}{e:Expr}{te:TE}{lo hi:Option Expr}{tl th:TO}{pos p2:Pos}
theorem c4p:PO X none tNoPart:=by
 intro pins s σ H Q I h;rw [evalPart_none];exact wpAny_pure ⟨none,H,I,.none,h⟩
theorem b7k (h:PE X e te):PO X (some e) (tPart te):=by
 intro pins s σ H Q I hw;rw [evalPart_some];refine thn (h pins s σ H _ I hw) fun u s1 ⟨x,H1,I1,r1,q1⟩=>?_;obtain ⟨i,rfl,q⟩:=q1;obtain ⟨t,rfl⟩:=r1;exact ⟨some i,H1,I1,.int i t,q⟩
def SlR (X:Cx)(r:V->Option Int->Option Int->Hp->VK->Prop):Prop:=
 ∀ (pins:List (Addr × Obj)) (s:Shared) (σ:St) (H:Hp) (x:V) (v vl vu:Value) (lo hi:Option Int) (sl:Addr) (Q:VK),Inv X pins σ H s->a6j x v->s.heap.IsSliceOf sl vl vu .none->IsPart vl lo->IsPart vu hi->r x lo hi H Q->
  ∃ T id,typeLookup (.type T) "__getitem__" = pure (some (.builtin id))/\s.TypeIs v T/\wpAny (model X.prog X.w) X.A (getItem v (.ref sl)) (EP X pins σ Q) X.xe s
def tSl (r:V->Option Int->Option Int->Hp->VK->Prop)(te:TE)(tl th:TO):TE:=fun σ H Q=>te σ H fun x H1=>tl σ H1 fun l H2=>th σ H2 fun u H3=>r x l u H3 Q
theorem b5s {r:V->Option Int->Option Int->Hp->VK->Prop}(hr:SlR X r)(he:PE X e te)(hl:PO X lo tl)(hu:PO X hi th):PE X (.Subscript e (.Slice lo hi none p2) pos) (tSl r te tl th):=by
 intro pins s σ H Q I h;refine Subscript_ (thn (he pins s σ H _ I h) fun v s1 ⟨x,H1,I1,r1,q1⟩=>?_);refine wpAny_Slice (thn (hl pins s1 σ H1 _ I1 q1) fun vl s2 ⟨l,H2,I2,pl,q2⟩=>thn (hu pins s2 σ H2 _ I2 q2) fun vu s3 ⟨u,H3,I3,pu,q3⟩=>?_);rw [evalPart_none];refine wpAny_pure ?_;have I4:Inv X pins σ H3 { s3 with heap:=s3.heap.push { cls:=.type "slice",data:=.fields #[vl,vu,.none] } }:=I3.kept (t':=s3.toks) fun b ob q=>Heap.get?_push_of_some _ q;obtain ⟨T,id,hT,ht,hg⟩:=hr pins { s3 with heap:=s3.heap.push { cls:=.type "slice",data:=.fields #[vl,vu,.none] } } σ H3 x v vl vu l u s3.heap.objs.size Q I4 r1 (Heap.IsSliceOf.new ..) pl pu q3;show wpAny (model X.prog X.w) X.A (subscriptTail e (.Slice lo hi none p2) v (.ref s3.heap.objs.size)) (EP X pins σ Q) X.xe { s3 with heap:=s3.heap.push { cls:=.type "slice",data:=.fields #[vl,vu,.none] } };exact tail_any (ops:=[.ref s3.heap.objs.size,v]) ht hT hg (by with_unfolding_all rfl)
def d3s (xs:List V)(lo hi:Option Int):List V:=(xs.drop (HT.sIx xs.length 0 lo)).take (HT.sIx xs.length xs.length hi - HT.sIx xs.length 0 lo)
theorem d0r (xs:List V)(lo hi:Option Int):(d3s xs lo hi).length <= xs.length:=by
 unfold d3s;rw [List.length_take,List.length_drop];omega
def rSlT (K:PySem.W.Frag):V->Option Int->Option Int->Hp->VK->Prop:=fun x lo hi H Q=>∃ a xs,x=.ref a/\SqT K H a xs/\
 ¬ (HT.sIx xs.length 0 lo=0/\HT.sIx xs.length xs.length hi=xs.length)/\∀ p,H p=none->Q (.ref p) (upd H p (.tup (d3s xs lo hi)))
theorem sl_tup:SlR X (rSlT X.K):=by
 intro pins s σ H x v vl vu lo hi sl Q I rx hs pl pu h;obtain ⟨a,xs,rfl,hx,hw,q⟩:=h;cases rx;obtain ⟨its,r,ht,hz⟩:=I.tuple hx;have hlen:its.toArray.size=xs.length:=by rw [List.size_toArray]; exact r.length.symm
 refine ⟨"tuple",_,PyProof.Rows.slot_tuple_getitem.lookup,ht.typeIs,?_⟩;refine HT.getItem_tuple_cut ht hs pl pu (by rw [hlen]; exact hw) ?_ (by rw [hlen]; exact hz);rw [hlen];refine ⟨.ref s.heap.objs.size,_,I.laid (t':=s.toks) (o:=.tup (d3s xs lo hi)) (fun b ob q=>Heap.get?_push_of_some _ q) (Nat.le_refl _) ?_,rfl,q _ (I.hok.fresh (Nat.le_refl _))⟩;exact ⟨Nat.le_trans (d0r xs lo hi) hz,_,(r.drop (HT.sIx xs.length 0 lo)).take (HT.sIx xs.length xs.length hi - HT.sIx xs.length 0 lo),IsTup.new _ _⟩
end
end L2
namespace L2
open PySem PySem.Spec PyProof.Rows
variable {i:Int}{j:Nat}
def ixN (n:Nat)(i:Int):Option Nat:=if 0 <= i then (if i < n then some i.toNat else none) else if -(n:Int) <= i then some (i + n).toNat else none
def atI {α:Type}(xs:List α)(i:Int):Option α:=(ixN xs.length i).bind fun j=>xs[j]?
theorem ixN_seq {n:Nat}(h:ixN n i=some j):seqIndex? i n=some j/\j < n/\-(n:Int) <= i/\i < n:=by
 unfold ixN at h
 by_cases h0:0 <= i
 ·rw [if_pos h0] at h
  by_cases h1:i < n
  ·rw [if_pos h1] at h;have e:i.toNat=j:=Option.some.inj h;exact ⟨by rw [seqIndex_of h0 h1,e],by omega,by omega,h1⟩
  ·rw [if_neg h1] at h; cases h
 ·rw [if_neg h0] at h
  by_cases h1:-(n:Int) <= i
  ·rw [if_pos h1] at h;have e:(i + n).toNat=j:=Option.some.inj h;exact ⟨by rw [seqIndex_neg (by omega) h1,e],by omega,h1,by omega⟩
  ·rw [if_neg h1] at h; cases h
theorem atI_get {α:Type}{xs:List α}{v:α}(h:atI xs i=some v):∃ j,seqIndex? i xs.length=some j/\xs[j]? = some v/\j < xs.length/\-(xs.length:Int) <= i/\i < xs.length:=by
 unfold atI at h
 cases e:ixN xs.length i with
 | none=>rw [e] at h; cases h
 | some j=>
  rw [e] at h;obtain ⟨h1,h2,h3,h4⟩:=ixN_seq e;exact ⟨j,h1,h,h2,h3,h4⟩
theorem b2d {α:Type}{xs:List α}{v:α}(h:xs[j]? = some v):atI xs (j:Int) = some v:=by
 have hj:j < xs.length:=(List.getElem?_eq_some_iff.mp h).1
 have e:ixN xs.length (j:Int) = some j:=by
  unfold ixN;rw [if_pos (by omega),if_pos (by omega)]; simp
 unfold atI; rw [e]; exact h
def PlainIx (b:Expr):Prop:=∀ o i,subscripted b false o i=operate [o,i] (getItem o i)
def IxR (X:Cx)(r:R2):Prop:=
 ∀ (value slice:Expr) (pins:List (Addr × Obj)) (s:Shared) (σ:St) (H:Hp) (x y:V) (v u:Value) (Q:VK),Inv X pins σ H s->a6j x v->a6j y u->r x y H Q->
  subscripted slice false v u=operate [v,u] (getItem v u)->wpAny (model X.prog X.w) X.A (subscriptTail value slice v u) (EP X pins σ Q) X.xe s
def MtR (X:Cx)(id:String)(r:V->List V->Hp->VK->Prop):Prop:=
 ∀ (pins:List (Addr × Obj)) (s:Shared) (σ:St) (H:Hp) (x:V) (xs:List V) (v:Value) (us:List Value) (Q:VK),Inv X pins σ H s->a6j x v->a6q xs us->r x xs H Q->
  wpAny (model X.prog X.w) X.A (call (.builtin id) (v :: us)) (EP X pins σ Q) X.xe s
section
variable {X:Cx}{a b:Expr}{ta tb:TE}{pos:Pos}
theorem a0z {r:R2}(hr:IxR X r)(ha:PE X a ta)(hb:PE X b tb)(hs:PlainIx b):PE X (.Subscript a b pos) (tOp r ta tb):=by
 intro pins s σ H Q I h;exact Subscript_ (binT ha hb I h fun v u s2 x y H2 I2 rx ry q=>hr a b pins s2 σ H2 x y v u Q I2 rx ry q (hs _ _))
def rIxL (K:PySem.W.Frag):R2:=fun x y H Q=>∃ p xs i v,x=.ref p/\y=.int i/\SqL K H p xs/\atI xs i=some v/\Q v H
def rIxT (K:PySem.W.Frag):R2:=fun x y H Q=>∃ p xs i v,x=.ref p/\y=.int i/\SqT K H p xs/\atI xs i=some v/\Q v H
theorem b8h:IxR X (rIxL X.K):=by
 intro value slice pins s σ H x y v u Q I rx ry h hs;obtain ⟨p,xs,i,z,rfl,rfl,hq,he,q⟩:=h;cases rx;obtain ⟨t,rfl⟩:=ry;obtain ⟨its,r,pl,hz⟩:=I.list hq;obtain ⟨j,h1,h2,h3,h4,h5⟩:=atI_get he;obtain ⟨w,ew,rw'⟩:=r.get h2;have hl:=r.length;have hn:=line63;have fin:EP X pins σ Q w s:=⟨z,H,I,rw',q⟩
 by_cases h0:0 <= i
 ·have hj:i.toNat=j:=by
   rw [seqIndex_of h0 h5] at h1;exact Option.some.inj h1
  exact item_listR pl.isList h0 (by omega) (by rw [hj]; simpa using ew) fin hs
 ·have hj:(i + (its.toArray.size:Int)).toNat=j:=by
   rw [seqIndex_neg (by omega) h4] at h1;rw [List.size_toArray,<- hl];exact Option.some.inj h1
  exact subscriptTail_builtinR (x:=w) pl.isList.typeIs slot_list_getitem.lookup
   (wpAny_getItem_list_neg (Q:=fun r s'=>r=w/\EP X pins σ Q r s') pl.isList (by omega) (by rw [List.size_toArray] <;> omega) (by omega) (by rw [hj]; simpa using ew) ⟨rfl,fin⟩) hs
theorem a0s:IxR X (rIxT X.K):=by
 intro value slice pins s σ H x y v u Q I rx ry h hs;obtain ⟨p,xs,i,z,rfl,rfl,hq,he,q⟩:=h;cases rx;obtain ⟨t,rfl⟩:=ry;obtain ⟨its,r,pl,hz⟩:=I.tuple hq;obtain ⟨j,h1,h2,h3,h4,h5⟩:=atI_get he;obtain ⟨w,ew,rw'⟩:=r.get h2;have hl:=r.length;have hn:=line63;have fin:EP X pins σ Q w s:=⟨z,H,I,rw',q⟩
 exact subscriptTail_builtinR (x:=w) pl.typeIs slot_tuple_getitem.lookup
  (getItem_tuple (j:=j) (Q:=fun r s'=>r=w/\EP X pins σ Q r s') pl (by omega) (by omega) (by rw [List.size_toArray,<- hl]; exact h1) (by simpa using ew) ⟨rfl,fin⟩) hs
theorem slice_bounds (lo hi:Option Int)(n:Nat):(sliceBounds lo hi none n).1=((HT.sIx n 0 lo:Nat):Int)/\(sliceBounds lo hi none n).2.1=((HT.sIx n n hi:Nat):Int)/\(sliceBounds lo hi none n).2.2=1:=by
 refine ⟨?_,?_,rfl⟩
 ·cases lo with
  | none=>simp [sliceBounds,HT.sIx]
  | some i=>
   simp only [sliceBounds,HT.sIx,Option.getD_none,show (1:Int) > 0 by decide,if_true]
   by_cases h:i < 0
   ·simp only [h,if_true] <;> omega
   ·simp only [h,if_false] <;> omega
 ·cases hi with
  | none=>simp [sliceBounds,HT.sIx]
  | some i=>
   simp only [sliceBounds,HT.sIx,Option.getD_none,show (1:Int) > 0 by decide,if_true]
   by_cases h:i < 0
   ·simp only [h,if_true] <;> omega
   ·simp only [h,if_false] <;> omega
theorem d8a (its:List Value)(lo hi:Option Int):slicePick its.toArray lo hi none=((its.drop (HT.sIx its.length 0 lo)).take (HT.sIx its.length its.length hi - HT.sIx its.length 0 lo)).toArray:=by
 obtain ⟨h1,h2,h3⟩:=slice_bounds lo hi its.toArray.size;unfold slicePick;rw [h1,h2,h3];simp only [sliceRange_one,pick_run,List.size_toArray] <;> rfl
def rSlL (K:PySem.W.Frag):V->Option Int->Option Int->Hp->VK->Prop:=fun x lo hi H Q=>∃ a xs,x=.ref a/\SqL K H a xs/\∀ p,H p=none->Q (.ref p) (upd H p (.lst (d3s xs lo hi)))
theorem d2b:SlR X (rSlL X.K):=by
 intro pins s σ H x v vl vu lo hi sl Q I rx hs pl pu h;obtain ⟨a,xs,rfl,hx,q⟩:=h;cases rx;obtain ⟨its,r,ht,hz⟩:=I.list hx;have hlen:=r.length;refine ⟨"list",_,slot_list_getitem.lookup,ht.isList.typeIs,?_⟩;refine wpAny_getItem_list_slice ht.isList hs pl pu .none (by simp) ?_ (by rw [List.size_toArray] <;> omega)
 rw [d8a,<- hlen];refine ⟨.ref s.heap.objs.size,_,I.laid (t':=s.toks) (o:=.lst (d3s xs lo hi)) (fun b ob q=>Heap.get?_push_of_some _ q) (Nat.le_refl _) ?_,rfl,q _ (I.hok.fresh (Nat.le_refl _))⟩;exact ⟨Nat.le_trans (d0r xs lo hi) hz,_,0,(r.drop (HT.sIx xs.length 0 lo)).take (HT.sIx xs.length xs.length hi - HT.sIx xs.length 0 lo),Heap.get?_push_size _ rfl⟩
def flatV:V->Bool
 | .non=>true
 | .bl _=>true
 | .int _=>true
 | .str _=>true
 | _=>false
theorem call_len_seq:b2t X (.builtin "len") (fun xs H Q=>∃ p ys,xs=[.ref p]/\(SqL X.K H p ys\/SqT X.K H p ys)/\Q (.int ys.length) H):=by
 intro pins s σ H xs us Q I r h;obtain ⟨p,ys,rfl,hq,q⟩:=h;obtain ⟨u,rfl,rx⟩:=vals1 r;cases rx;have hn:=line63
 rcases hq with hq | hq
 ·obtain ⟨its,r',pl,hz⟩:=I.list hq;have hlen:=r'.length;exact Calls.call_len_list pl.isList (by simp only [List.size_toArray] <;> omega) ⟨.int ys.length,H,I.tok _,⟨s.toks + 1,by rw [List.size_toArray,hlen]⟩,q⟩
 ·obtain ⟨its,r',pl,hz⟩:=I.tuple hq;have hlen:=r'.length;exact len_tuple pl (by simp only [List.size_toArray] <;> omega) ⟨.int ys.length,H,I.tok _,⟨s.toks + 1,by rw [List.size_toArray,hlen]⟩,q⟩
theorem call_len_str:b2t X (.builtin "len") (fun xs H Q=>∃ z,xs=[.str z]/\z.length <= sizeLine/\Q (.int z.length) H):=by
 intro pins s σ H xs us Q I r h;obtain ⟨z,rfl,hz,q⟩:=h;obtain ⟨u,rfl,t,rfl⟩:=vals1 r;have hn:=line63;exact len_str (by omega) ⟨.int z.length,H,I.tok _,⟨_,rfl⟩,q⟩
theorem b2t.or {f:Value}{r r':List V->Hp->VK->Prop}(h:b2t X f r)(h':b2t X f r'):b2t X f (fun xs H Q=>r xs H Q\/r' xs H Q):=by
 intro pins s σ H xs us Q I rs q
 rcases q with q | q
 ·exact h pins s σ H xs us Q I rs q
 ·exact h' pins s σ H xs us Q I rs q
theorem call_list_of:b2t X (.type "list") (fun xs H Q=>∃ p ys,xs=[.ref p]/\(SqL X.K H p ys\/SqT X.K H p ys)/\∀ l,H l=none->Q (.ref l) (upd H l (.lst ys))):=by
 intro pins s σ H xs us Q I r h;obtain ⟨p,ys,rfl,hq,q⟩:=h;obtain ⟨u,rfl,rx⟩:=vals1 r;cases rx
 have fin:∀ (its:List Value),a6q ys its->ys.length <= sizeLine->∀ (h':Heap) (c':Nat),(∀ b o',s.heap.get? b=some o'->h'.get? b=some o')->
   h'.get? s.heap.objs.size=some { cls:=.type "list",dict:=none,data:=.seq its.toArray c',slots:=#[] }->EP X pins σ Q (.ref s.heap.objs.size) { s with heap:=h' }:=fun its r' hz h' c' kp e=>
  ⟨.ref s.heap.objs.size,_,I.laid (t':=s.toks) kp (Nat.le_refl _) (show a6c X.prog X.w _ h' _ (.lst ys) from ⟨hz,its,c',r',e⟩),rfl,q _ (I.hok.fresh (Nat.le_refl _))⟩
 rcases hq with hq | hq
 ·obtain ⟨its,r',pl,hz⟩:=I.list hq;have hlen:=r'.length;obtain ⟨o,ho,hc,n,hd⟩:=pl.isList;exact call_list_seq p (.inl rfl) ho hc hd (fun h' c' kp e=>fin its r' hz h' c' kp e) (by simp only [List.size_toArray] <;> omega)
 ·obtain ⟨its,r',pl,hz⟩:=I.tuple hq;have hlen:=r'.length;obtain ⟨o,ho,hc,n,hd⟩:=pl;exact call_list_seq p (.inr rfl) ho hc hd (fun h' c' kp e=>fin its r' hz h' c' kp e) (by simp only [List.size_toArray] <;> omega)
def tyV (K:PySem.W.Frag)(T:String)(x:V)(H:Hp):Prop:=match x with
 | .str _=>T= "str"
 | .int _=>T= "int"
 | .ref p=>(T= "list"/\∃ xs,SqL K H p xs)\/(T= "tuple"/\∃ o,K.lookup p=some o/\o.cls=.type "tuple"/\o.dict=none)\/
   (T= "dict"/\((∃ kvs,H p=some (.dK kvs))\/∃ kvs,H p=some (.dT kvs)))\/(T= "set"/\∃ S n,H p=some (.set S n))
 | _=>False
theorem tyV_is {pins:List (Addr × Obj)}{σ:St}{H:Hp}{s:Shared}{T:String}{x:V}{v:Value}(I:Inv X pins σ H s)(r:a6j x v)(ty:tyV X.K T x H) :
  s.TypeIs v T/\∀ a,v=.ref a->∃ ob,s.heap.get? a=some ob/\ob.dict=none:=by
 cases x with
 | str z=>
  obtain ⟨t,rfl⟩:=r;cases (show T= "str" from ty);exact ⟨typeIs_str s z t,fun _ e=>nomatch e⟩
 | int i=>
  obtain ⟨t,rfl⟩:=r;cases (show T= "int" from ty);exact ⟨typeIs_int s i t,fun _ e=>nomatch e⟩
 | ref p=>
  cases r
  rcases ty with ⟨rfl,xs,hq⟩ | ⟨rfl,o,hk,hc,hd⟩ | ⟨rfl,hk⟩ | ⟨rfl,S,n,hk⟩
  ·obtain ⟨its,_,pl,_⟩:=I.list hq;refine ⟨pl.isList.typeIs,fun a e=>?_⟩;cases e;obtain ⟨o,n,e,c,hd,_⟩:=pl;exact ⟨o,e,hd⟩
  ·refine ⟨⟨o,I.kIn p o hk,hc⟩,fun a e=>?_⟩;cases e;exact ⟨o,I.kIn _ o hk,hd⟩
  ·have z:∃ o,s.heap.get? p=some o/\o.ExactDict:=by
    rcases hk with ⟨kvs,hk⟩ | ⟨kvs,hk⟩
    ·obtain ⟨_,_,_,_,o,_,_,e,ex,_⟩:=I.hok p _ hk;exact ⟨o,e,ex⟩
    ·obtain ⟨_,_,_,_,o,_,_,e,ex,_⟩:=I.hok p _ hk;exact ⟨o,e,ex⟩
   obtain ⟨o,e,ex⟩:=z;refine ⟨⟨o,e,ex.1⟩,fun a e2=>?_⟩;cases e2;exact ⟨o,e,ex.2.1⟩
  ·obtain ⟨o,_,_,_,e,ex,_⟩:=I.hok p _ hk;refine ⟨⟨o,e,ex.1⟩,fun a e2=>?_⟩;cases e2;exact ⟨o,e,ex.2.1⟩
 | _=>exact False.elim ty
def tBM0 (K:PySem.W.Frag)(T:String)(r:V->List V->Hp->VK->Prop)(to:TE):TE:=fun σ H Q=>to σ H fun x H1=>tyV K T x H1/\r x [] H1 Q
def tBM (K:PySem.W.Frag)(T:String)(r:V->List V->Hp->VK->Prop)(to:TE)(t:TA):TE:=fun σ H Q=>to σ H fun x H1=>tyV K T x H1/\t σ H1 fun xs H2=>r x xs H2 Q
variable {o e:Expr}{es:List Expr}{to:TE}{t:TA}{name:Str}{apos cpos:Pos}{T id:String}{r:V->List V->Hp->VK->Prop}
theorem pe_bm0 (pa:PlainAttrs T)(slot:Slot T name id)(hty:typeOf (.builtin id) = pure (.type "method_descriptor"))(hm:MtR X id r)(ho:PE X o to)
  (hbase:attributeBase o name X.env (eval o X.env) = eval o X.env:=by rfl) (hline:(apos.endLine == cpos.line) = true:=by rfl):PE X (.Call (.Attribute o name apos) [] [] cpos) (tBM0 X.K T r to):=by
 intro pins s σ H Q I h;refine wpAny_Call_method0_late hbase hline (thn (ho pins s σ H _ I h) fun v s1 ⟨x,H1,I1,r1,ty,q1⟩=>?_);obtain ⟨h1,h2⟩:=tyV_is I1 r1 ty;exact ⟨T,id,pa,slot,hty,h1,h2,Calls.callWith_builtin rfl (PySem.evalArgs_none (hm pins s1 σ H1 x [] v [] Q I1 r1 .nil q1))⟩
theorem pe_bm (pa:PlainAttrs T)(slot:Slot T name id)(hty:typeOf (.builtin id) = pure (.type "method_descriptor"))(hm:MtR X id r)(ho:PE X o to)(ha:PA X (e :: es) t)
  (hbase:attributeBase o name X.env (eval o X.env) = eval o X.env:=by rfl)
  (hfew:((backTo cpos (starEach (e :: es) X.env)).all (fun x=>!x.1) && (backToKw cpos (keywordEach [] X.env)).all (fun x=>x.1.isSome)
   && decide ((e :: es).length + ([]:List Keyword).length + (if ([]:List Keyword).isEmpty then 0 else 1) < 30)) = true:=by rfl)
  (hline:(apos.endLine == cpos.line) = true:=by rfl) (hs:starEach (e :: es) X.env=(false,eval e X.env) :: starEach es X.env:=by rfl) (hplain:(backTo cpos (starEach es X.env)).any (·.1) = false:=by rfl) :
  PE X (.Call (.Attribute o name apos) (e :: es) [] cpos) (tBM X.K T r to t):=by
 intro pins s σ H Q I h;refine wpAny_Call_method_late hbase hfew hline rfl (thn (ho pins s σ H _ I h) fun v s1 ⟨x,H1,I1,r1,ty,q1⟩=>?_);obtain ⟨h1,h2⟩:=tyV_is I1 r1 ty;refine ⟨T,id,pa,slot,hty,h1,h2,?_⟩;have hA:=ha cpos pins s1 σ H1 _ I1 q1;rw [hs] at hA ⊢;refine Calls.callWith_builtin (by show (false || (backTo cpos (starEach es X.env)).any (·.1)) = false; rw [hplain] <;> rfl) (Calls.evalArgs_plain ?_)
 exact thn hA fun us s2 ⟨vs,H2,I2,r2,q2⟩=>hm pins s2 σ H2 x vs v us Q I2 r1 r2 q2
end
end L2
namespace L2
open PySem PySem.Spec PyProof.Rows
variable {its:List Value}{a c t':Nat}
def MtM (X:Cx)(id:String)(r:V->List V->Hp->VK->Prop):Prop:=
 ∀ (pins:List (Addr × Obj)) (s:Shared) (σ:St) (H:Hp) (x:V) (xs:List V) (v:Value) (us:List Value) (Q:VK),Inv X pins σ H s->a6j x v->a6q xs us->r x xs H Q->
  wpAny (model X.prog X.w) X.A (call (.builtin id) (v :: us)) (EP X pins σ Q) X.xe s
theorem a6q.one:∀ {x:V} {us:List Value},a6q [x] us->∃ u,us=[u]/\a6j x u
 | _,_,.cons r .nil=>⟨_,rfl,r⟩
theorem a6q.two:∀ {x y:V} {us:List Value},a6q [x,y] us->∃ u v,us=[u,v]/\a6j x u/\a6j y v
 | _,_,_,.cons r (.cons q .nil)=>⟨_,_,rfl,r,q⟩
section
variable {X:Cx}{pins:List (Addr × Obj)}{σ:St}{H:Hp}{s:Shared}{l b:Addr}{xs ys zs:List V}
theorem Inv.lset {its':List Value}{n:Nat}{f:Array Value->Array Value}(I:Inv X pins σ H s)(hH:H l=some (.lst xs))
  (e:s.heap.get? l=some { cls:=.type "list",data:=.seq its.toArray n }) (hf:f its.toArray=its'.toArray) (hv:a6q ys its') (hz:ys.length <= sizeLine) :
  Inv X pins σ (upd H l (.lst ys)) { s with heap:=s.heap.update l (Obj.mapSeq f),toks:=t' }:=by
 have q:=PySem.IsL.update e f;rw [hf] at q;refine I.write (x:=l) (e:=l) (by rw [hH]; exact trivial) (.inl rfl) (fun b' u hb hu=>(Heap.get?_update_other s.heap (Obj.mapSeq f) (Ne.symm hb)).trans hu) ⟨_,q⟩ ?_;exact ⟨hz,its',_,hv,q⟩
theorem Inv.lnew (I:Inv X pins σ H s)(hv:a6q ys its)(hz:ys.length <= sizeLine) :
  Inv X pins σ (upd H s.heap.objs.size (.lst ys)) { s with heap:=s.heap.push { cls:=.type "list",data:=.seq its.toArray },toks:=t' }:=
 I.laid (fun _ _ q=>Heap.get?_push_of_some _ q) (Nat.le_refl _) ⟨hz,its,0,hv,Heap.get?_push_size _ rfl⟩
theorem Inv.fresh (I:Inv X pins σ H s):H s.heap.objs.size=none:=I.hok.fresh (Nat.le_refl _)
theorem Inv.lstM (I:Inv X pins σ H s)(hH:H l=some (.lst xs)):xs.length <= sizeLine/\∃ (its:List Value) (n:Nat),a6q xs its/\xs.length=its.length/\s.heap.get? l=some { cls:=.type "list",data:=.seq its.toArray n }:=by
 obtain ⟨z,its,n,r,e⟩:=I.hok l _ hH;exact ⟨z,its,n,r,r.length,e⟩
theorem notLongL {n:Nat}(h:n <= sizeLine):Builtin.List.listTooLong n=false:=by
 unfold Builtin.List.listTooLong;exact decide_eq_false (by omega)
end
section
variable {X:Cx}
def rAppend:V->List V->Hp->VK->Prop:=fun x vs H Q=>∃ l xs y,x=.ref l/\vs=[y]/\H l=some (.lst xs)/\xs.length < sizeLine/\Q .non (upd H l (.lst (xs ++ [y])))
theorem mt_append:MtM X "list.append" rAppend:=by
 intro pins s σ H x vs v us Q I rx rv h;obtain ⟨l,xs,y,rfl,rfl,hH,hz,q⟩:=h;cases rx;obtain ⟨u,rfl,ru⟩:=rv.one;obtain ⟨z,its,n,r,hl,e⟩:=I.lstM hH;refine call_meets F.slot_list_append ⟨_,e,rfl⟩ F.entry_list_append (F.args_list_append_2 _ _) (PySem.list_append l its.toArray n u (by rw [List.size_toArray]; omega)) ⟨e,?_⟩;refine ⟨.non,_,I.lset (its':=its ++ [u]) hH e (by simp) (r.append (.cons ru .nil)) ?_,rfl,q⟩;rw [List.length_append,List.length_singleton];omega
def rCat:R2:=fun x y H Q=>∃ l b xs zs,x=.ref l/\y=.ref b/\H l=some (.lst xs)/\H b=some (.lst zs)/\xs.length + zs.length <= sizeLine/\∀ p,H p=none->Q (.ref p) (upd H p (.lst (xs ++ zs)))
theorem c5x:OpR X (binaryOp .Add) rCat:=by
 intro pins s σ H x y v u Q I rx ry h;obtain ⟨l,b,xs,zs,rfl,rfl,hH,hB,hz,q⟩:=h;cases rx;cases ry;obtain ⟨z,its,n,r,hl,e⟩:=I.lstM hH;obtain ⟨z2,its2,n2,r2,hl2,e2⟩:=I.lstM hB;refine PySem.P.add_list e e2 ?_ (by rw [List.size_toArray,List.size_toArray]; omega);have ea:its.toArray ++ its2.toArray=(its ++ its2).toArray:=by simp
 rw [ea];exact ⟨.ref _,_,I.lnew (t':=s.toks) (r.append r2) (by rw [List.length_append]; omega),rfl,q _ I.fresh⟩
end
section
variable {prog:Program}{w:World}{A:Around}{E:Value->Shared->Prop}{s:Shared}
theorem bounds_run {n:Nat}(hac:a <= c)(hc:c <= n):sliceBounds (some (a:Int)) (some (c:Int)) none n=((a:Int),(c:Int),1):=by
 simp only [sliceBounds,Option.getD_none];have h1:¬ ((a:Int) < 0):=by omega
 have h2:¬ ((c:Int) < 0):=by omega
 simp only [h1,h2,if_false,show (1:Int) > 0 by decide,if_true]
 congr 1
 ·omega
 ·congr 1; omega
set_option maxRecDepth 100000 in
theorem setItem_slice {l b sl:Addr}{items new:Array Value}{n n2:Nat}{vl vu:Value}{Q:Unit->Shared->Prop}
  (e:s.heap.get? l=some { cls:=.type "list",data:=.seq items n }) (e2:s.heap.get? b=some { cls:=.type "list",data:=.seq new n2 }) (hne:l ≠ b)
  (hs:s.heap.IsSliceOf sl vl vu .none) (pl:IsPart vl (some (a:Int))) (pu:IsPart vu (some (c:Int))) (hac:a <= c) (hc:c <= items.size)
  (hsz:items.size + new.size <= sizeLine) (h:Q () { s with heap:=s.heap.update l (Obj.mapSeq fun xs=>xs.extract 0 a ++ new ++ xs.extract c xs.size) }) :
  wpAny (model prog w) A (setItem (.ref l) (.ref sl) (.ref b)) Q E s:=by
 have hl:s.heap.IsList l items:=PySem.IsL.isList e;have hb:s.heap.IsList b new:=PySem.IsL.isList e2;obtain ⟨os,hos,hcs,hds⟩:=id hs;have hTs:s.TypeIs (.ref sl) "slice":=⟨os,hos,hcs⟩;have hstep:¬ ((rawPart none == rawInt 0) = true):=Bool.false_ne_true
 have hsame:Builtin.List.listSameRef (.ref l) (.ref b) = false:=by
  unfold Builtin.List.listSameRef;exact beq_eq_false_iff_ne.mpr hne
 have hmax:(max (a:Int) (c:Int)).toNat=c:=by omega
 have hz':((fun xs:Array Value=>xs.extract 0 a ++ new ++ xs.extract c xs.size) items).size <= sizeLine + 1:=by
  simp only [Array.size_append,Array.size_extract];omega
 unfold setItem
 try with_reducible refine wpAny_holding ?_
 first | refine wpAny_bind (wpAny_pure ?_) | skip
 refine wpAny_bind (wpAny_sequenceKey hl.typeIs (by decide) ?_)
 refine wpAny_bind (wpAny_callSpecial?_slot (name:=Str.ofString "__setitem__") hl.typeIs slot_list_setitem
  (wpAny_call_entry slot_list_setitem hl.typeIs entry_list_setitem ?_ (args_list_setitem _ _ _)))
 show wpAny _ _ (Builtin.List.listSubscript? (.ref sl) >>= _) _ _ s;refine wpAny_bind ?_;unfold Builtin.List.listSubscript?;refine wpAny_bind (wpAny_specialOf hTs slice_no_index ?_);simp only [Option.isNone_none,if_true];refine wpAny_pure ?_;show wpAny _ _ (typeOf (.ref sl) >>= _) _ _ s;refine wpAny_bind (wpAny_typeOf hTs ?_)
 first
  | rw [if_neg (by decide)]
  | refine PySem.W.KFB.if_not (by decide) ?_
 rw [listSliceParts_eq];refine wpAny_bind (wpAny_bind (wpAny_field hos hds (x:=.none) rfl (wpAny_bind (wpAny_listPart .none ?_))));rw [if_neg hstep];refine wpAny_bind (wpAny_field hos hds (x:=vl) rfl (wpAny_bind (wpAny_listPart pl ?_)));refine wpAny_bind (wpAny_field hos hds (x:=vu) rfl (wpAny_bind (wpAny_listPart pu (wpAny_pure ?_))))
 first
  | simp only [hsame,Bool.false_eq_true,if_false]
  | refine PySem.W.KFB.if_not hsame ?_
  | (dsimp only
     rw [if_neg (by rw [hsame]; exact Bool.false_ne_true)])
 refine wpAny_bind (m:=Builtin.List.listAllItems (.ref b) "must assign iterable to extended slice") ?_;unfold Builtin.List.listAllItems;refine wpAny_bind (wpAny_typeOf hb.typeIs ?_)
 first
  | refine PySem.W.KFB.if_so (by decide) ?_
  | rw [if_pos (by decide)]
  | simp only [beq_self_eq_true,Bool.true_or,if_true]
 unfold Builtin.List.listItems;refine wpAny_bind (wpAny_seqItems e2 rfl (wpAny_pure ?_));refine wpAny_bind (wpAny_bind (wpAny_seqItems e rfl (wpAny_pure ?_)));refine wpAny_bind (wpAny_of_eq ((sliceIndices_raw (some (a:Int)) (some (c:Int)) none items.size (by simp)).trans (congrArg (pure:Int × Int × Int->Sem (Int × Int × Int)) (bounds_run hac hc))) ?_);show wpAny _ _ (if ((1:Int) == 1) = true then _ else _) _ _ s;rw [if_pos (by decide)];refine wpAny_bind (wpAny_rule ?_)
 first
  | simp only [notLongL hsz,Bool.false_eq_true,if_false]
  | refine PySem.W.KFB.if_not (notLongL hsz) ?_
 first | refine wpAny_bind (wpAny_pure ?_) | skip
 show wpAny _ _ (updateSeq l (fun xs=>xs.extract 0 ((a:Int)).toNat ++ new ++ xs.extract (max (a:Int) (c:Int)).toNat xs.size) >>= _) _ _ s;rw [hmax,Int.toNat_natCast];refine wpAny_bind (wpAny_updateSeq (hz:=Nat.le_trans (Nat.le_add_right _ _) hsz) (_hz':=hz') e rfl ?_);refine wpAny_bind (wpAny_letGo ?_)
 first
  | exact wpAny_bind (wpAny_pure (wpAny_pure ⟨.none,rfl,wpAny_pure h⟩))
  | exact wpAny_pure ⟨.none,rfl,wpAny_pure h⟩
end
section
variable {X:Cx}
end
end L2
namespace Att
open PySem PySem.W PySem.Calls PyProof.Rows
variable {h:Heap}{l:OpenLaw}{P:Params}
theorem d0y :∀ (ns:List Int) (vs:List Value),WellAll P h vs (ns.map WData.int)->IntsAre vs ns:=by
 intro ns
 induction ns with
 | nil=>
  intro vs w;rw [List.map_nil] at w;cases w;exact .nil
 | cons n ns ih=>
  intro vs w;rw [List.map_cons] at w
  cases w with
  | cons a b=>
   cases a;exact .cons _ _ (ih _ b)
theorem script_of {n:Nat}(hn:l.most=some n){args:List WData}{vals:List Value}
  (hpre:l.row.toRowW.claim.pre args=true) (hwl:WellAll P h vals args) :
  ∃ a vs ns,vals=[Value.ref a]/\args=[WData.list (ns.map WData.int)]/\h.get? a=some { cls:=.type "list",data:=.seq vs.toArray }/\IntsAre vs ns/\ns.length <= n:=by
 have hsh:WShape.hasAll [] args [.list .int] = true:=(pre_splitW hpre).1;have hc:l.pre.holds [] { args:=args } = true:=(pre_splitW hpre).2;obtain ⟨d,r,rfl,h1,h2⟩:=hasAllW_cons hsh;obtain rfl:=hasAllW_nil h2;obtain ⟨xs,rfl,h3⟩:=hasW_list h1;obtain ⟨ns,rfl⟩:=items_int h3
 have hlen:ns.length <= n:=by
  unfold OpenLaw.pre at hc
  have h4:(WTm.not (.lt (.lit (.int (n:Int))) (.len (.arg 0)))).holds [] { args:=[.list (ns.map .int)] } = true:=by
   have h4:=(holds_andW hc).1;rw [hn] at h4;exact h4
  have h5:=condW_of h4 (w_not (w_lt w_lit (w_len_list (w_arg rfl))));rw [List.length_map] at h5;refine Nat.le_of_not_lt fun q=>?_;have q':(n:Int) < ((ns.length:Nat):Int):=by omega
  first
   | (rw [decide_eq_true q'] at h5; exact absurd h5 (by decide))
   | (simp at h5; omega)
 cases hwl with
 | cons w1 w2=>
  cases w2
  cases w1 with
  | list ho hall=>exact ⟨_,_,ns,rfl,rfl,ho,d0y ns _ hall,hlen⟩
theorem post_true (l:OpenLaw)(args:List WData):l.row.toRowW.claim.post args (.bool true) args=true:=
 postW_of (r:=l.row.toRowW) (X:=(true == true))
  (show WShape.has [] (.bool true) .bool=true by first | rfl | decide | simp [WShape.has,WShape.arms,WShape.armsAll])
  (show (WTm.eq .res (.lit (.bool true))).value [] { args:=args,res:=some (.bool true),after:=args } = some (.bool (true == true)) from w_eq_bool (w_res rfl) w_lit) rfl
theorem attach_call {n:Nat}{q:Program}{loose:List Str}{XP:(Str->Option Value)->Heap->Prop}{YP:World->Heap->Prop}{d:DefRec}
  (hn:l.most=some n) (hdf:d.params.defaults=[])
  (call:∀ (w:World) (s₀ s₁:Shared) (mg mb:Str->Option Value) (fa:Addr) (o:Obj) (pm cd doc:Value) (a:Addr) (vs:List Value) (ns:List Int),
   Ground q loose [] XP w s₀ mg mb s₁.heap->YP w s₁.heap->
   s₁.heap.get? fa=some o->o.data=.func (docDef d.name d.params d.body d.scope pm cd doc)->s₁.heap.CodeRec cd d.name->mg d.name=some (.ref fa)->
   s₁.heap.get? a=some { cls:=.type "list",data:=.seq vs.toArray }->IntsAre vs ns->ns.length <= n->s₁.gens= #[]->
   codeAny (model l.prog w) callerA (.call (.ref fa) ⟨[.ref a],[]⟩) (fun r s'=>r=.ok (.ret (.bool true))/\OldK s₁.heap s'.heap/\s'.os=s₁.os/\AllBare s'.gens) s₁) :
  WalkO q loose XP YP l.row.toRowW d [] (fun f vs=>PySem.call f vs):=by
 intro w s₀ s₁ mg mb G Y fa o pm cd doc dV kV ho hd hcd hD hmg hg args vals as hpre hlay hrd hwl hlo;obtain rfl:dV=.none:=Dflts.none hD hdf;obtain rfl:kV=.none:=Dflts.noKw hD;obtain ⟨a,vs,ns,rfl,rfl,hobj,hints,hlen⟩:=script_of hn hpre hwl;refine enter_call (codeAny_mono (call w s₀ s₁ mg mb fa o pm cd doc a vs ns G Y ho (fd_plain hd) hcd hmg hobj hints hlen hg) fun r s' hq=>?_);obtain ⟨rfl,h2,h3,h4⟩:=hq;exact ⟨.inl ⟨.bool true,.bool true,[],rfl,fun _=>rfl,.bool true,post_true l _,fun _=>⟨List.Pairwise.nil,fun _ hm=>(nomatch hm)⟩⟩,h2,h3,h4⟩
section
variable {prog:Program}{w:World}{A:Around}{E:Value->Shared->Prop}{s:Shared}{K:Frag}
end
end Att
namespace L2
open PySem PySem.Spec PyProof.Rows
theorem vals_ints:∀ {vs:List Value} {ns:List Int},IntsAre vs ns->a6q (ns.map V.int) vs
 | _,_,.nil=>.nil
 | _,_,.cons n t h=>.cons ⟨t,rfl⟩ (vals_ints h)
end L2
namespace L2
open PySem PySem.Spec PyProof.Rows
end L2
namespace L2
open PySem PySem.Spec PyProof.Rows
variable {f:Addr}{fd:FuncData}{H:Hp}{ps:List Str}{k:Nat}{st:Stmt}{qual x:Str}
def a2a (s:Stmt)(j:Nat):Stmt:=match s with
 | .ClassDef _ _ _ body _ _ _ _ _ _ _=>body.getD j (.Pass ⟨0,0,0,0⟩)
 | _=>.Pass ⟨0,0,0,0⟩
def a3n (s:Stmt):Arguments:=match s with
 | .FunctionDef _ a _ _ _ _ _ _ _ _=>a
 | _=>{ posonlyargs:=[],args:=[],vararg:=none,kwonlyargs:=[],kw_defaults:=[],kwarg:=none,defaults:=[] }
def a2z (s:Stmt):List Stmt:=match s with
 | .FunctionDef _ _ b _ _ _ _ _ _ _=>b
 | _=>[]
def a0f (s:Stmt):Scope:=match s with
 | .FunctionDef _ _ _ _ _ _ sc _ _ _=>sc
 | _=>{ kind:=.function,names:=[],isGenerator:=false,isCoroutine:=false }
abbrev CX0:CXT:=fun _ _ _ _ _ _=>False
abbrev E0:XK:=fun _ _ _=>False
theorem a0x {X:Cx}:b4r CX0 X E0:=fun _ _ _ _ _ _ _ h=>h.elim
structure Fun (K:PySem.W.Frag)(x qual:Str)(st:Stmt)(f:Addr)(fd:FuncData):Prop where
 ex:∃ (oc:Value) (od:Option Addr) (kV doc pm:Value) (an:Option Addr) (cdv ct:Value) (osl:Array (Option Value)),
  fd=PySem.W.fnOf x qual (a3n st) (a2z st) (a0f st) .none kV doc pm an cdv ct/\K.lookup f=some ⟨oc,od,.func fd,osl⟩/\PySem.W.codeIn K cdv qual=true
 kp:PySem.W.keepIn K (.ref f) = true
section
variable {P:Program}{w:World}{K:PySem.W.Frag}{mg:Str->Option Value}{base:Heap}
theorem Fun.ok {N:List Str}{sp:Sp}(F:Fun K x qual st f fd)(S:a0r N ps (a0f st))(len:∀ vs H Q E,sp vs H Q E->vs.length=ps.length)
  (hbody:∀ (cdv:Value) (A:Around) (outer:List Env) (s:Shared) (H:Hp) (vs:List V) (Q:VK) (E:XK),b4y k (A.deeper (envOfC qual (a0f st) s.heap.objs.size f cdv))->sp vs H Q E->
   ∃ t,PSs (cxOf CX0 P w K mg base N qual (a0f st) f cdv A outer s H E).nox (a2z st) t/\t { nx:=fun _ H'=>Q .non H',rt:=Q } (start N vs) H):a2s P w K mg base CX0 (k + 1) f fd ps sp:=by
 obtain ⟨oc,od,kV,doc,pm,an,cdv,ct,osl,rfl,lk,hcd⟩:=F.ex;refine fn_of lk hcd S len fun A outer s H vs Q E hr hsp=>?_;obtain ⟨t,h,q⟩:=hbody cdv A outer s H vs Q E hr hsp;exact ⟨t,h.nox,q⟩
theorem Fun.binds (F:Fun K x qual st f fd)
  (h:∀ (kV doc pm:Value) (an:Option Addr) (cdv ct:Value) (us:List Value),us.length=ps.length->bindArgs (PySem.W.fnOf x qual (a3n st) (a2z st) (a0f st) .none kV doc pm an cdv ct) ⟨us,[]⟩ = pure (ps.zip us)):c1u K fd ps []:=by
 obtain ⟨oc,od,kV,doc,pm,an,cdv,ct,osl,rfl,lk,hcd⟩:=F.ex;exact .all (h kV doc pm an cdv ct)
theorem fun_mk {oc:Value}{od an:Option Addr}{osl:Array (Option Value)}{kV doc pm cdv ct:Value}(l:K.lookup f=some ⟨oc,od,.func (PySem.W.fnOf x qual (a3n st) (a2z st) (a0f st) .none kV doc pm an cdv ct),osl⟩)
  (c:PySem.W.codeIn K cdv qual=true) (k:PySem.W.keepIn K (.ref f) = true):Fun K x qual st f (PySem.W.fnOf x qual (a3n st) (a2z st) (a0f st) .none kV doc pm an cdv ct):=⟨⟨oc,od,kV,doc,pm,an,cdv,ct,osl,rfl,l,c⟩,k⟩
end
theorem hu_of {A:Around}(hr:b4y k A):A.units + 1 < cLine:=Nat.lt_of_le_of_lt (Nat.add_le_add_left (by decide:1 <= 64) _) hr.units
theorem a6d {n:Nat}(h:n <= 1000):n < sizeLine:=Nat.lt_of_le_of_lt h (by decide)
section
variable {X:Cx}
theorem pv (i:Nat){pos:Pos}(hN:X.N[i]? = some x:=by rfl)(hv:Vis X.env.scope x:=by first | exact Or.inl rfl | exact Or.inr (Or.inl rfl) | exact Or.inr (Or.inr rfl))(hd:(x == ("__debug__":Str)) = false:=by decide)
  (hcd:(x == ("__classdict__":Str)) = false:=by decide):PE X (.Name x pos) (tVar i):=pe_var hN hv hd hcd
end
theorem iteF {A B:Prop}(h:B):if false=true then A else B:=by
 rw [if_neg Bool.false_ne_true];exact h
theorem iteT {A B:Prop}(h:A):if true=true then A else B:=by
 rw [if_pos rfl];exact h
def a2c (H H':Hp):Prop:=∀ b o,H b=some o->H' b=some o
theorem a2c.refl (H:Hp):a2c H H:=fun _ _ h=>h
theorem a2c.trans {H1 H2:Hp}(a:a2c H H1)(b:a2c H1 H2):a2c H H2:=fun c o h=>b c o (a c o h)
theorem a2c.seq {K:PySem.W.Frag}{H':Hp}{a:Addr}{xs:List V}(e:a2c H H')(h:SqL K H a xs):SqL K H' a xs:=by
 rcases h with (h | ⟨o,h⟩) | h
 ·exact .inl (.inl (e _ _ h))
 ·exact .inl (.inr ⟨o,e _ _ h⟩)
 ·exact .inr h
end L2
namespace L2
open PySem PySem.Spec PyProof.Rows
variable {X:Cx}{h':Heap}{H H':Hp}{xs:List (List Key × Addr × Value)}{kvs:List (List Key × V)}{trs:List (TE × TE)}{pos:Pos}{P:Program}{y:V}{u:Value}{w:World}
section
variable {κ:Type} [DecidableEq κ]
def d3c (kvs:List (κ × V))(k:κ):Option V:=(kvs.find? fun kv=>decide (kv.1=k)).map (·.2)
def d1s (kvs:List (κ × V))(k:κ)(v:V):List (κ × V):=
 if (kvs.any fun kv=>decide (kv.1=k)) = true then kvs.map (fun kv=>if kv.1=k then (kv.1,v) else kv) else kvs ++ [(k,v)]
theorem c8m {p:κ × V}{r:List (κ × V)}{k:κ}(e:p.1=k):d3c (p :: r) k=some p.2:=by simp [d3c,List.find?_cons,e]
theorem c8e {p:κ × V}{r:List (κ × V)}{k:κ}(e:¬ p.1=k):d3c (p :: r) k=d3c r k:=by simp [d3c,List.find?_cons,e]
theorem valV_any (k:κ):∀ kvs:List (κ × V),(kvs.any fun kv=>decide (kv.1=k)) = (d3c kvs k).isSome
 | []=>rfl
 | p :: r=>by
  rw [List.any_cons]
  by_cases e:p.1=k
  ·simp only [c8m e,decide_eq_true e,Bool.true_or,Option.isSome_some]
  ·rw [c8e e,decide_eq_false e,Bool.false_or]; exact valV_any k r
theorem c1t (kvs:List (κ × V))(k:κ)(v:V):(d1s kvs k v).length <= kvs.length + 1:=by
 unfold d1s
 split
 ·rw [List.length_map]; omega
 ·rw [List.length_append,List.length_cons,List.length_nil]; omega
theorem RelO.isSome_eq {o:Option V}{u:Option Value}(r:RelO o u):o.isSome=u.isSome:=by
 cases o with
 | none=>cases u with
  | none=>rfl
  | some _=>exact (show False from r).elim
 | some _=>cases u with
  | none=>exact (show False from r).elim
  | some _=>rfl
theorem RelO.getD {o:Option V}{u:Option Value}{d:V}{d':Value}(r:RelO o u)(rd:a6j d d'):a6j (o.getD d) (u.getD d'):=by
 cases o with
 | none=>cases u with
  | none=>exact rd
  | some _=>exact (show False from r).elim
 | some _=>cases u with
  | none=>exact (show False from r).elim
  | some _=>exact r
theorem KV.val {kvs:List (κ × V)}{vs:List (κ × Value)}(r:KV kvs vs)(k:κ):RelO (d3c kvs k) (valueAt vs k):=by
 unfold KV at r
 induction r with
 | nil=>exact True.intro
 | @cons p q ps qs h t ih=>
  obtain ⟨h1,h2⟩:=h
  by_cases e:p.1=k
  ·have e':q.1=k:=h1.symm.trans e;have b:valueAt (q :: qs) k=some q.2:=by simp [valueAt,List.find?_cons,e']
   rw [c8m e,b]; exact h2
  ·have e':¬ q.1=k:=fun z=>e (h1.trans z);have b:valueAt (q :: qs) k=valueAt qs k:=by simp [valueAt,List.find?_cons,e']
   rw [c8e e,b]; exact ih
theorem KV.any {kvs:List (κ × V)}{vs:List (κ × Value)}(r:KV kvs vs)(k:κ):(kvs.any fun kv=>decide (kv.1=k)) = vs.any fun kv=>decide (kv.1=k):=by
 unfold KV at r
 induction r with
 | nil=>rfl
 | cons h t ih=>rw [List.any_cons,List.any_cons,ih,h.1]
theorem KV.repl {kvs:List (κ × V)}{vs:List (κ × Value)}(r:KV kvs vs)(k:κ)(ry:a6j y u) :
  KV (kvs.map fun kv=>if kv.1=k then (kv.1,y) else kv) (vs.map fun kv=>if kv.1=k then (kv.1,u) else kv):=by
 unfold KV at r ⊢
 induction r with
 | nil=>exact .nil
 | @cons p q ps qs h t ih=>
  rw [List.map_cons,List.map_cons];refine .cons ?_ ih;obtain ⟨h1,h2⟩:=h
  by_cases e:p.1=k
  ·rw [if_pos e,if_pos (h1.symm.trans e)]; exact ⟨h1,ry⟩
  ·rw [if_neg e,if_neg (fun z=>e (h1.trans z))]; exact ⟨h1,h2⟩
theorem KV.put {kvs:List (κ × V)}{vs:List (κ × Value)}(r:KV kvs vs)(k:κ)(ry:a6j y u):KV (d1s kvs k y) (stored vs k u):=by
 unfold d1s stored;rw [r.any k]
 by_cases e:(vs.any fun kv=>decide (kv.1=k)) = true
 ·rw [if_pos e,if_pos e]; exact r.repl k ry
 ·rw [if_neg e,if_neg e]; exact Paired.snoc r ⟨rfl,ry⟩
theorem KV.keys {kvs:List (κ × V)}{vs:List (κ × Value)}(r:KV kvs vs):kvs.map (·.1) = vs.map (·.1):=by
 unfold KV at r
 induction r with
 | nil=>rfl
 | cons h t ih=>rw [List.map_cons,List.map_cons,ih,h.1]
theorem KV.length {kvs:List (κ × V)}{vs:List (κ × Value)}(r:KV kvs vs):kvs.length=vs.length:=Paired.length r
end
theorem kV_is {k:Key}(r:a6j (kV k) u):(a2p P w).is k u=true:=by
 cases k with
 | inl i=>obtain ⟨t,e⟩:=(show ∃ t,u=Value.int i t from r); subst e; exact mixKind_int P w i t
 | inr x=>obtain ⟨t,e⟩:=(show ∃ t,u=Value.str x t from r); subst e; exact mixKind_str P w x t
theorem items_are {P:Program}{w:World}:∀ {ks:List Key} {us:List Value},a6q (ks.map kV) us->ItemsAre (a2p P w) ks us
 | [],_,r=>by rw [List.map_nil] at r; cases r; exact .nil
 | k :: ks,_,r=>by
  rw [List.map_cons] at r
  cases r with
  | cons h t=>exact .cons (kV_is h) (items_are t)
abbrev KT (H:Hp):List (List Key × V)->List (List Key × Addr × Value)->Prop:=Paired fun p q=>p.1=q.1/\H q.2.1=some (.tup (p.1.map kV))/\a6j p.2 q.2.2
theorem KT.val (r:KT H kvs xs)(k:List Key):RelO (d3c kvs k) ((atKey xs k).map (·.2)):=by
 induction r with
 | nil=>exact True.intro
 | @cons p q ps qs h t ih=>
  obtain ⟨h1,_,h2⟩:=h
  by_cases e:p.1=k
  ·have e':q.1=k:=h1.symm.trans e;have b:atKey (q :: qs) k=some q.2:=by simp [atKey,List.find?_cons,e']
   rw [c8m e,b]; exact h2
  ·have e':¬ q.1=k:=fun z=>e (h1.trans z);have b:atKey (q :: qs) k=atKey qs k:=by simp [atKey,List.find?_cons,e']
   rw [c8e e,b]; exact ih
theorem KT.repl (r:KT H kvs xs)(k:List Key)(ry:a6j y u) :
  KT H (kvs.map fun kv=>if kv.1=k then (kv.1,y) else kv) (xs.map (putAt k u)):=by
 induction r with
 | nil=>exact .nil
 | @cons p q ps qs h t ih=>
  rw [List.map_cons,List.map_cons];refine .cons ?_ ih;obtain ⟨h1,h2,h3⟩:=h;unfold putAt
  by_cases e:p.1=k
  ·rw [if_pos e,if_pos (h1.symm.trans e)]; exact ⟨h1,h2,ry⟩
  ·rw [if_neg e,if_neg (fun z=>e (h1.trans z))]; exact ⟨h1,h2,h3⟩
theorem KT.put (r:KT H kvs xs)(k:List Key){b:Addr}(hb:H b=some (.tup (k.map kV)))(ry:a6j y u) :
  KT H (d1s kvs k y) (storedH xs k b u):=by
 have e:(kvs.any fun kv=>decide (kv.1=k)) = (atKey xs k).isSome:=by
  rw [valV_any,(r.val k).isSome_eq,Option.isSome_map]
 unfold d1s storedH;rw [e]
 by_cases q:(atKey xs k).isSome=true
 ·rw [if_pos q,if_pos q]; exact r.repl k ry
 ·rw [if_neg q,if_neg q]; exact Paired.snoc r ⟨rfl,hb,ry⟩
theorem KT.keeps (r:KT H kvs xs)(ht:∀ b ys,H b=some (.tup ys)->H' b=some (.tup ys)):KT H' kvs xs:=
 Paired.mapP r fun _ _ z=>⟨z.1,ht _ _ z.2.1,z.2.2⟩
section
variable {P:Program}{w:World}{H:Hp}{h:Heap}{a:Addr}
theorem rd_of {u:HO}(ok:HOk P w H h)(e:Rd H a u):a6c P w H h a u:=e.ok ok
theorem d2q {kvs:List (Key × V)}(ok:HOk P w H h)(e:Rd H a (.dK kvs)):kvs.length <= sizeLine/\(a == sysModules) = false/\∃ vs,KV kvs vs/\h.DictOf (a2p P w) a vs:=
 show a6c P w H h a (.dK kvs) from rd_of ok e
theorem dk_of {kvs:List (Key × V)}(ok:HOk P w H h)(e:H a=some (.dK kvs)):kvs.length <= sizeLine/\(a == sysModules) = false/\∃ vs,KV kvs vs/\h.DictOf (a2p P w) a vs:=d2q ok (.inl e)
theorem key_of {ks:List Key}(ok:HOk P w H h)(e:H a=some (.tup (ks.map kV))):(tupleKind (a2p P w)).is h ks a:=by
 obtain ⟨_,its,r,o,h1,h2,n,h3⟩:=(show a6c P w H h a (.tup (ks.map kV)) from ok a _ e);exact ⟨o,its.toArray,n,h1,h2,h3,by simpa using items_are r⟩
theorem dt_rd (ok:HOk P w H h)(e:Rd H a (.dT kvs)):kvs.length <= sizeLine/\(a == sysModules) = false/\
  ∃ xs,KT H kvs xs/\h.DictOfH (tupleKind (a2p P w)) a xs:=by
 obtain ⟨z,y,xs,r,o,es,ep,h1,h2,h3,h4,h5⟩:=(show a6c P w H h a (.dT kvs) from rd_of ok e);refine ⟨z,y,xs,r,o,es,ep,h1,h2,h3,h4,fun x hx=>?_,h5⟩
 have all:∀ {l:List (List Key × V)} {m:List (List Key × Addr × Value)},KT H l m->∀ x ∈ m,(tupleKind (a2p P w)).is h x.1 x.2.1:=by
  intro l m q
  induction q with
  | nil=>intro x hx; exact nomatch hx
  | @cons p q ps qs hq t ih=>
   intro x hx
   rcases List.mem_cons.mp hx with e | hx
   ·subst e;exact key_of ok (by rw [<- hq.1]; exact hq.2.1)
   ·exact ih x hx
 exact all r x hx
theorem dt_of (ok:HOk P w H h)(e:H a=some (.dT kvs)):kvs.length <= sizeLine/\(a == sysModules) = false/\
  ∃ xs,KT H kvs xs/\h.DictOfH (tupleKind (a2p P w)) a xs:=dt_rd ok (.inl e)
end
def DGet (H:Hp)(a:Addr)(y:V)(r:Option V):Prop:=
 (∃ kvs k,Rd H a (.dK kvs)/\y=kV k/\r=d3c kvs k)\/∃ kvs k b,Rd H a (.dT kvs)/\y=.ref b/\H b=some (.tup (k.map kV))/\r=d3c kvs k
def DPut (H:Hp)(a:Addr)(y v:V)(H':Hp):Prop:=
 (∃ kvs k,H a=some (.dK kvs)/\y=kV k/\kvs.length < sizeLine/\H' = upd H a (.dK (d1s kvs k v)))\/
 ∃ kvs k b,H a=some (.dT kvs)/\y=.ref b/\H b=some (.tup (k.map kV))/\kvs.length < sizeLine/\H' = upd H a (.dT (d1s kvs k v))
section
variable {X:Cx}{pins:List (Addr × Obj)}{σ:St}{H:Hp}{s:Shared}{a:Addr}{y v:V}{u r:Value}{o:Option V}{A:Around}{E:Value->Shared->Prop}
theorem Inv.big (I:Inv X pins σ H s):sysModules < s.heap.objs.size:=by
 have h:mainGlobals < s.heap.objs.size:=(I.mod.glob.keeps I.bk).lt;exact Nat.lt_trans (by decide) h
theorem d_write {t':Nat}{ob:HO}(I:Inv X pins σ H s)(mu:Mut (H a))(hs:Heap.SameBut a s.heap h')(he:∃ q,h'.get? a=some q)(new:a6c X.prog X.w (upd H a ob) h' a ob) :
  Inv X pins σ (upd H a ob) { s with heap:=h',toks:=t' }:=
 I.write (x:=a) (e:=a) mu (.inl rfl) (fun b q hb z=>(hs.2 b hb).trans z) he new
theorem dk_new {kvs:List (Key × V)}{vs:List (Key × Value)}(z:kvs.length <= sizeLine)(hd:(a == sysModules) = false)(rel:KV kvs vs)(dd:h'.DictOf (a2p P w) a vs) :
  a6c P w H' h' a (.dK kvs):=⟨z,hd,vs,rel,dd⟩
theorem d_setItem {Q:Unit->Shared->Prop}(hu:A.units + 1 < cLine)(I:Inv X pins σ H s)(g:DPut H a y v H')(ry:a6j y u)(rv:a6j v r)(h:∀ s',Inv X pins σ H' s'->Q () s') :
  wpAny (model X.prog X.w) A (setItem (.ref a) u r) Q E s:=by
 rcases g with ⟨kvs,k,e,ey,l,eH⟩ | ⟨kvs,k,b,e,ey,eb,l,eH⟩
 ·subst ey eH;obtain ⟨z,hd,vs,rel,dd⟩:=dk_of I.hok e;have hz:vs.length <= sizeLine:=by rw [<- rel.length]; exact z
  have hl:(d1s kvs k v).length <= sizeLine:=by have:=c1t kvs k v; omega
  refine wpAny_setItem_pairs (hsz:=hz) (kV_is ry) dd fun h' dd' hs=>h _ ?_;have he:∃ q,h'.get? a=some q:=let ⟨q,_,_,hq,_⟩:=dd'; ⟨q,hq⟩;exact d_write I (by rw [e]; exact True.intro) hs he (dk_new hl hd (rel.put k rv) dd')
 ·subst ey eH;cases (show u=Value.ref b from ry);obtain ⟨z,hd,xs,rel,dd⟩:=dt_of I.hok e;have hz:xs.length <= sizeLine:=by rw [<- Paired.length rel]; exact z
  have hl:(d1s kvs k v).length <= sizeLine:=by have:=c1t kvs k v; omega
  refine wpAny_setItem_heap (hsz:=hz) (tupleKind_room_in1 hu) (key_of I.hok eb) dd fun h' dd' hs=>h _ ?_;obtain ⟨q,es,ep,hq,h2,h3,h4,_,h5⟩:=dd';refine d_write I (by rw [e]; exact True.intro) hs ⟨q,hq⟩ ⟨hl,hd,_,(rel.put k eb rv).keeps fun c ys ec=>?_,q,es,ep,hq,h2,h3,h4,h5⟩;rw [a0q (c6y ec e (fun z=>nomatch z))];exact ec
end
section
variable {X:Cx}{pins:List (Addr × Obj)}{σ:St}{H:Hp}{s:Shared}{a:Addr}{kvs:List (Key × V)}{k:Key}{u:Value}{A:Around}{E:Value->Shared->Prop}
end
def sDPut (td ty tv:TE):TS:=fun D σ H=>tv σ H fun v H1=>td σ H1 fun x H2=>ty σ H2 fun y H3=>∃ a H4,x=.ref a/\DPut H3 a y v H4/\D.nx σ H4
section
variable {X:Cx}{o i e value:Expr}{pos pos' tpos:Pos}{td ty tv:TE}
theorem d2t (hu:X.A.units + 1 < cLine)(ho:PE X o td)(hi:PE X i ty)(hv:PE X value tv)(hs:swapsWith value (some (.Subscript o i pos')) pos.line X.env=pure false) :
  PS X (.Assign [.Subscript o i pos'] value pos) (sDPut td ty tv):=by
 intro pins s σ H D I h;refine wpAny_Assign_Subscript (thn (hv pins s σ H _ I h) fun r s1 ⟨v,H1,I1,rv,q1⟩=>thn (ho pins s1 σ H1 _ I1 q1) fun u s2 ⟨x,H2,I2,rx,q2⟩=>thn (hi pins s2 σ H2 _ I2 q2) fun iv s3 ⟨y,H3,I3,ry,a,H4,ex,g,q3⟩=>?_) hs;subst ex;obtain rfl:u=Value.ref a:=rx;exact d_setItem hu I3 g ry rv fun s4 I4=>⟨σ,H4,I4,q3⟩
end
theorem dk_empty (h:Heap)(hb:sysModules < h.objs.size):a6c P w H (h.push { cls:=.type "dict",data:=.dict #[] }) h.objs.size (.dK []):=
 ⟨Nat.zero_le _,beq_eq_false_iff_ne.mpr (Ne.symm (Nat.ne_of_lt hb)),[],.nil,Heap.DictOf.new h⟩
section
variable {X:Cx}{pos:Pos}
end
def tPairs:List (TE × TE)->St->Hp->(List (V × V)->Hp->Prop)->Prop
 | [],_,H,Q=>Q [] H
 | (tk,tv) :: r,σ,H,Q=>tk σ H fun x H1=>tv σ H1 fun y H2=>tPairs r σ H2 fun ps H3=>Q ((x,y) :: ps) H3
abbrev VV:List (V × V)->List (Value × Value)->Prop:=Paired fun p q=>a6j p.1 q.1/\a6j p.2 q.2
def PPs (X:Cx)(pos:Pos)(keys:List (Option Expr))(values:List Expr)(trs:List (TE × TE)):Prop:=
 ∀ (pins:List (Addr × Obj)) (s:Shared) (σ:St) (H:Hp) (Q:List (V × V)->Hp->Prop),Inv X pins σ H s->tPairs trs σ H Q->
  wpAny (model X.prog X.w) X.A (evalPairs (pairTrees keys values X.env pos)) (fun vs s'=>∃ ps H',Inv X pins σ H' s'/\VV ps vs/\Q ps H') X.xe s
theorem pps_nil :PPs X pos [] [] []:=fun pins s σ H Q I h=>pairTrees_nil_walk ⟨[],H,I,.nil,h⟩
theorem pps_cons {k v:Expr}{ks:List (Option Expr)}{vs:List Expr}{tk tv:TE}(hk:PE X k tk)(hv:PE X v tv)(hr:PPs X pos ks vs trs) :
  PPs X pos (some k :: ks) (v :: vs) ((tk,tv) :: trs):=fun pins s σ H Q I h=>
 pairTrees_cons_walk (thn (hk pins s σ H _ I h) fun u s1 ⟨x,H1,I1,rx,q1⟩=>thn (hv pins s1 σ H1 _ I1 q1) fun w2 s2 ⟨y,H2,I2,ry,q2⟩=>
  thn (hr pins s2 σ H2 _ I2 q2) fun ws s3 ⟨ps,H3,I3,rel,q3⟩=>⟨(x,y) :: ps,H3,I3,.cons ⟨rx,ry⟩ rel,q3⟩)
def d5j (kvs more:List (Key × V)):List (Key × V):=more.foldl (fun acc kv=>d1s acc kv.1 kv.2) kvs
theorem KV.merge:∀ {more:List (Key × V)} {rs:List (Key × Value)} {kvs:List (Key × V)} {vs:List (Key × Value)},KV more rs->KV kvs vs->KV (d5j kvs more) (merged vs rs):=by
 intro more rs kvs vs r;unfold KV at r
 induction r generalizing kvs vs with
 | nil=>intro q; exact q
 | @cons p q ps qs h t ih=>
  intro r0
  have e:KV (d1s kvs p.1 p.2) (stored vs q.1 q.2):=by
   have:=r0.put p.1 h.2;rw [<- h.1]; exact this
  exact ih e
theorem c2t:∀ (more kvs:List (Key × V)),(d5j kvs more).length <= kvs.length + more.length
 | [],kvs=>by show kvs.length <= kvs.length + 0; omega
 | p :: r,kvs=>by
  have h1:=c2t r (d1s kvs p.1 p.2);have h2:=c1t kvs p.1 p.2;show (d5j (d1s kvs p.1 p.2) r).length <= _;rw [List.length_cons]; omega
theorem d5r {P:Program}{w:World}:∀ {kvs:List (Key × V)} {ws:List (Value × Value)},VV (kvs.map fun kv=>(kV kv.1,kv.2)) ws->∃ rs,Carries (a2p P w) ws rs/\KV kvs rs
 | [],_,r=>by rw [List.map_nil] at r; cases r; exact ⟨[],True.intro,.nil⟩
 | p :: kvs,_,r=>by
  rw [List.map_cons] at r
  cases r with
  | @cons a b as bs h t=>
   obtain ⟨rs,c,q⟩:=d5r (P:=P) (w:=w) t;obtain ⟨b1,b2⟩:=b;exact ⟨(p.1,b2) :: rs,⟨kV_is h.1,rfl,c⟩,.cons ⟨rfl,h.2⟩ q⟩
def tDisp (trs:List (TE × TE)):TE:=fun σ H Q=>∀ p,H p=none->tPairs trs σ (upd H p (.dK [])) fun ps H2=>H2 p=some (.dK [])/\∃ kvs:List (Key × V),ps=kvs.map (fun kv=>(kV kv.1,kv.2))/\kvs.length <= 15/\Q (.ref p) (upd H2 p (.dK (d5j [] kvs)))
theorem pe_disp {keys:List (Option Expr)}{values:List Expr}(h:PPs X pos keys values trs)(hall:keys.all (·.isSome) = true)(hl:keys.length=values.length)(h0:keys ≠ [])
  (h15:keys.length <= 15):PE X (.Dict keys values pos) (tDisp trs):=by
 intro pins s σ H Q I q;have hn:=I.hok.fresh (Nat.le_refl s.heap.objs.size);have I1:=I.laid (a:=s.heap.objs.size) (o:=.dK []) (h':=s.heap.push { cls:=.type "dict",data:=.dict #[] }) (t':=s.toks) (fun _ _ q=>Heap.get?_push_of_some _ q) (Nat.le_refl _) (dk_empty s.heap I.big);refine wpAny_Dict_walk (knd:=a2p X.prog X.w) hall hl h0 h15 (thn (h pins _ σ _ _ I1 (q _ hn)) fun ws s2 ⟨ps,H2,I2,rel,e,kvs,ep,lk,q2⟩=>?_);subst ep;obtain ⟨rs,c,rk⟩:=d5r (P:=X.prog) (w:=X.w) rel;obtain ⟨z,hd,vs0,r0,dd⟩:=dk_of I2.hok e;cases r0;refine ⟨rs,c,dd,fun h' dd' hs=>⟨.ref s.heap.objs.size,_,?_,rfl,q2⟩⟩
 have hz:(d5j [] kvs).length <= sizeLine:=by
  have h1:=c2t kvs [];rw [List.length_nil] at h1;rw [sizeLine_eq]; omega
 have he:∃ q,h'.get? s.heap.objs.size=some q:=let ⟨q,_,_,hq,_⟩:=dd'; ⟨q,hq⟩;exact d_write I2 (by rw [e]; exact True.intro) hs he (dk_new hz hd (rk.merge .nil) dd')
structure M2 (X:Cx)(o:Expr)(m:Str)(apos:Pos)(e f:Expr)(cpos:Pos):Prop where
 base:attributeBase o m X.env (eval o X.env) = eval o X.env
 few:((backTo cpos (starEach [e,f] X.env)).all (fun x=>!x.1) && (backToKw cpos (keywordEach [] X.env)).all (fun x=>x.1.isSome)
  && decide (([e,f]:List Expr).length + ([]:List Keyword).length + (if ([]:List Keyword).isEmpty then 0 else 1) < 30)) = true
 line:(apos.endLine == cpos.line) = true
 trees:backTo cpos (starEach [e,f] X.env) = [(false,eval e X.env),(false,eval f X.env)]
def IsD (H:Hp)(a:Addr):Prop:=(∃ kvs,Rd H a (.dK kvs))\/∃ kvs,Rd H a (.dT kvs)
theorem isD_at {pins:List (Addr × Obj)}{σ:St}{s:Shared}{a:Addr}(I:Inv X pins σ H s)(d:IsD H a) :
  s.TypeIs (.ref a) "dict"/\(∀ b,Value.ref a=.ref b->∃ ob,s.heap.get? b=some ob/\ob.dict=none)/\(a == sysModules) = false:=by
 rcases d with ⟨kvs,e⟩ | ⟨kvs,e⟩
 ·obtain ⟨_,hd,vs,_,dd⟩:=d2q I.hok e;refine ⟨dd.typeIs,fun b q=>?_,hd⟩;cases q;obtain ⟨ob,_,_,h1,h2,_⟩:=dd;exact ⟨ob,h1,h2.2.1⟩
 ·obtain ⟨_,hd,xs,_,dd⟩:=dt_rd I.hok e;refine ⟨dd.typeIs,fun b q=>?_,hd⟩;cases q;obtain ⟨ob,_,_,h1,h2,_⟩:=dd;exact ⟨ob,h1,h2.2.1⟩
section
variable {X:Cx}{pins:List (Addr × Obj)}{σ:St}{H:Hp}{s:Shared}{a:Addr}{y d:V}{u r:Value}{o:Option V}{A:Around}{E:Value->Shared->Prop}
theorem d_get2 {Q:Value->Shared->Prop}(hu:A.units + 1 < cLine)(I:Inv X pins σ H s)(g:DGet H a y o)(ry:a6j y u)(rd:a6j d r)(h:∀ w' s',Inv X pins σ H s'->a6j (o.getD d) w'->Q w' s') :
  wpAny (model X.prog X.w) A (call (.builtin "dict.get") [.ref a,u,r]) Q E s:=by
 rcases g with ⟨kvs,k,e,ey,l⟩ | ⟨kvs,k,b,e,ey,eb,l⟩
 ·subst ey;obtain ⟨z,hd,vs,rel,dd⟩:=d2q I.hok e;refine call_meetsIn PySem.F.slot_dict_get dd.typeIs PySem.F.entry_dict_get (PySem.F.args_dict_get_3 _ _ _) (meets_dict_get_default (a2p X.prog X.w) a (kV_is ry) hd r) ⟨_,dd.mapOf,h _ _ (I.tok _) ?_⟩;rw [l];exact (rel.val k).getD rd
 ·subst ey;cases (show u=Value.ref b from ry);obtain ⟨z,hd,xs,rel,dd⟩:=dt_rd I.hok e;refine call_meetsIn PySem.F.slot_dict_get dd.typeIs PySem.F.entry_dict_get (PySem.F.args_dict_get_3 _ _ _) (meetsH_dict_get_default (tupleKind (a2p X.prog X.w)) a b hd r) ⟨tupleKind_room_in1 hu,k,xs,key_of I.hok eb,dd,h _ _ (I.tok _) ?_⟩;rw [l];exact (rel.val k).getD rd
end
def tDGet2 (td ty tx:TE):TE:=fun σ H Q=>td σ H fun x H1=>∃ a,x=.ref a/\IsD H1 a/\ty σ H1 fun y H2=>tx σ H2 fun z H3=>∃ o,DGet H3 a y o/\Q (o.getD z) H3
section
variable {X:Cx}{o e f:Expr}{apos cpos:Pos}{td ty tx:TE}
theorem pe_dget2 (hu:X.A.units + 1 < cLine)(ho:PE X o td)(he:PE X e ty)(hf:PE X f tx)(m:M2 X o "get" apos e f cpos):PE X (.Call (.Attribute o "get" apos) [e,f] [] cpos) (tDGet2 td ty tx):=by
 intro pins s σ H Q I h;refine wpAny_Call_method m.base m.few m.line PySem.F.plainAttrs_dict PySem.F.slot_dict_get PySem.F.type_dict_get (thn (ho pins s σ H _ I h) fun u s1 ⟨x,H1,I1,rx,a,ex,d,q1⟩=>?_);subst ex;obtain rfl:u=Value.ref a:=rx;obtain ⟨t1,t2,_⟩:=isD_at I1 d;refine ⟨t1,t2,?_⟩;rw [m.trees]
 refine Calls.callWith_builtin rfl (Calls.evalArgs_plain (Calls.spliced_cons (thn (he pins s1 σ H1 _ I1 q1) fun iv s2 ⟨y,H2,I2,ry,q2⟩=>
  Calls.spliced_cons (thn (hf pins s2 σ H2 _ I2 q2) fun fv s3 ⟨z,H3,I3,rz,ov,g,q3⟩=>Calls.spliced_nil ?_))))
 exact d_get2 hu I3 g ry rz fun w' s4 I4 rw'=>⟨_,H3,I4,rw',q3⟩
end
section
variable {X:Cx}{pins:List (Addr × Obj)}{σ:St}{H:Hp}{s:Shared}{a:Addr}{kvs:List (Key × V)}{A:Around}{E:Value->Shared->Prop}
theorem d_copyOf {Q:Value->Shared->Prop}(I:Inv X pins σ H s)(e:Rd H a (.dK kvs))(h:∀ p s',H p=none->Inv X pins σ (upd H p (.dK kvs)) s'->Q (.ref p) s'):wpAny (model X.prog X.w) A (call (.type "dict") [.ref a]) Q E s:=by
 obtain ⟨z,hd,vs,rel,dd⟩:=d2q I.hok e;refine kt_call_dict hd dd (by rw [<- rel.length]; exact z) fun h' dd' hs=>?_;refine h _ _ (I.hok.fresh (Nat.le_refl _)) (I.laid (a:=s.heap.objs.size) (o:=.dK kvs) (t':=s.toks) (fun b q hq=>?_) (Nat.le_refl _) (dk_new z (beq_eq_false_iff_ne.mpr (Ne.symm (Nat.ne_of_lt I.big))) rel dd'));exact (hs.2 b (Nat.ne_of_lt (Heap.lt_size hq))).trans (Heap.get?_push_of_some _ hq)
end
section
variable {X:Cx}{pins:List (Addr × Obj)}{σ:St}{H:Hp}{s:Shared}{a:Addr}{y:V}{u:Value}{A:Around}{E:Value->Shared->Prop}
end
end L2
namespace L2
open PySem PySem.Spec PyProof.Rows
section
variable {X:Cx}
end
section
variable {κ:Type} [DecidableEq κ]
end
end L2
namespace L2
open PySem PySem.Spec PyProof.Rows
structure Cal (P:Program)(w:World)(K:PySem.W.Frag)(mg:Str->Option Value)(base:Heap)(CX:CXT)(k:Nat)(x:Str)(ps:List Str)(sp:Sp):Prop where
 ex:∃ f fd,a2s P w K mg base CX k f fd ps sp/\c1u K fd ps []/\PySem.W.keepIn K (.ref f) = true/\mg x=some (.ref f)
def GC (mg:Str->Option Value)(x:Str)(v:V):Prop:=∃ u,mg x=some u/\a6j v u
section
variable {X:Cx}{CX:CXT}{j k:Nat}{ps:List Str}{sp:Sp}{E:XK}{x:Str}{v:V}{p pos:Pos}{e:Expr}{es:List Expr}{t:TA}
theorem a1b (c:Cal X.prog X.w X.K X.mg X.base CX k x ps sp)(hr:b4y j X.A)(hx:b4r CX X E)(ha:PA X (e :: es) t)(hk:k <= j:=by decide)(hg:Gl X x:=by rfl)(hdb:(x == ("__debug__":Str)) = false:=by decide)
  (he:starEach (e :: es) X.env=(false,eval e X.env) :: starEach es X.env:=by rfl) (hpl:(backTo pos (starEach es X.env)).any (·.1) = false:=by rfl) :
  PE X (.Call (.Name x p) (e :: es) [] pos) (tCall sp [] E t):=by
 obtain ⟨f,fd,F,b,kp,m⟩:=c.ex;exact pe_call F (hr.mono hk) hg m kp b .nil hx ha hdb he hpl
theorem a2j (h:GC X.mg x v)(hg:Gl X x:=by rfl)(hd:(x == ("__debug__":Str)) = false:=by decide):PE X (.Name x pos) (tC v):=by
 obtain ⟨u,m,r⟩:=h;exact d8d hg m r hd
def CDivW (i j:Int):Prop:=0 < j/\j < 2 ^ 200
theorem op_fdivW:OpR X (binaryOp .FloorDiv) (rI CDivW fun i j=>.int (i / j)):=opI fun i j _ _ _ _ _ hc q=>by
 have h1:(0:Int) < j:=hc.1;have h2:j < 2 ^ 200:=hc.2;have h3:j.natAbs < 2 ^ 200:=by omega
 have h4:j.natAbs.log2 < 200:=(Nat.log2_lt (by omega)).mpr h3;exact floordiv_int (by omega) (by rw [Int.fdiv_eq_ediv_of_nonneg i (by omega)]; exact q) (.inl (PyProof.noPylong_of_log2 (by omega)))
end
mutual
inductive DV (K:PySem.W.Frag) (H:Hp):V->PyData->Prop
 | non:DV K H .non .none
 | bl (b:Bool):DV K H (.bl b) (.bool b)
 | int (i:Int):DV K H (.int i) (.int i)
 | str (x:Str):DV K H (.str x) (.str x)
 | tup {a xs ds}:SqT K H a xs->DVs K H xs ds->DV K H (.ref a) (.tuple ds)
 | lst {a xs ds}:SqL K H a xs->DVs K H xs ds->DV K H (.ref a) (.list ds)
inductive DVs (K:PySem.W.Frag) (H:Hp):List V->List PyData->Prop
 | nil:DVs K H [] []
 | cons {x xs d ds}:DV K H x d->DVs K H xs ds->DVs K H (x :: xs) (d :: ds)
end
section
variable {X:Cx}{pins:List (Addr × Obj)}{σ:St}{H:Hp}{s:Shared}
mutual
theorem DV.reads (I:Inv X pins σ H s):∀ {x:V} {d:PyData} {u:Value},DV X.K H x d->a6j x u->∃ as,Reads s.heap u d as
 | _,_,_,.non,r=>by cases r; exact ⟨_,Reads.none⟩
 | _,_,_,.bl b,r=>by cases r; exact ⟨_,Reads.bool b⟩
 | _,_,_,.int i,r=>by obtain ⟨t,rfl⟩:=r; exact ⟨_,Reads.int i t⟩
 | _,_,_,.str x,r=>by obtain ⟨t,rfl⟩:=r; exact ⟨_,Reads.str x t⟩
 | _,_,_,.tup h hs,r=>by
  cases r;obtain ⟨its,rs,⟨o,ho,hc,n,hd⟩,_⟩:=I.tuple h;obtain ⟨as,q⟩:=DVs.reads I hs rs;exact ⟨_,reads_tuple_at ho hc hd (by simpa using q)⟩
 | _,_,_,.lst h hs,r=>by
  cases r;obtain ⟨its,rs,⟨o,n,ho,hc,_,hd⟩,_⟩:=I.list h;obtain ⟨as,q⟩:=DVs.reads I hs rs;exact ⟨_,reads_list_at ho hc hd (by simpa using q)⟩
theorem DVs.reads (I:Inv X pins σ H s):∀ {xs:List V} {ds:List PyData} {us:List Value},DVs X.K H xs ds->a6q xs us->∃ as,ReadsAll s.heap us ds as
 | _,_,_,.nil,.nil=>⟨_,ReadsAll.nil⟩
 | _,_,_,.cons h hs,.cons r rs=>by
  obtain ⟨as,q⟩:=DV.reads I h r;obtain ⟨bs,p⟩:=DVs.reads I hs rs;exact ⟨_,ReadsAll.cons q p⟩
end
def rNeD (K:PySem.W.Frag):R2:=fun x y H Q=>∃ d e,DV K H x d/\DV K H y e/\SeqAt.shaped d=true/\SeqAt.shaped e=true/\Q (.bl (!PyData.eqv d e)) H
theorem d2k (hu:X.A.units + 64 < cLine):OpR X (compareOp .NotEq) (rNeD X.K):=by
 intro pins s σ H x y v u Q I rx ry h;obtain ⟨d,e,hd,he,sd,se,q⟩:=h;obtain ⟨as,ra⟩:=hd.reads I rx;obtain ⟨bs,rb⟩:=he.reads I ry;exact ne_dataH ra rb sd se hu ⟨.bl _,H,I,rfl,q⟩
end
theorem a2c.tup {K:PySem.W.Frag}{H H':Hp}{a:Addr}{xs:List V}(e:a2c H H')(h:SqT K H a xs):SqT K H' a xs:=by
 rcases h with (h | ⟨o,h⟩) | h
 ·exact .inl (.inl (e _ _ h))
 ·exact .inl (.inr ⟨o,e _ _ h⟩)
 ·exact .inr h
theorem a0b {H:Hp}{p:Addr}(h:H p=none)(o:HO):a2c H (upd H p o):=fun b u q=>by rw [a0q (a0n q h)]; exact q
end L2
namespace L2
open PySem PySem.Spec PyProof.Rows
theorem boot_bool:bootBuiltins "bool" = some (.type "bool"):=by decide +kernel
theorem d8x:bootBuiltins "int" = some (.type "int"):=by decide +kernel
theorem boot_str:bootBuiltins "str" = some (.type "str"):=by decide +kernel
theorem a9r:bootBuiltins "list" = some (.type "list"):=by decide +kernel
theorem b9d:bootBuiltins "tuple" = some (.type "tuple"):=by decide +kernel
theorem boot_dict:bootBuiltins "dict" = some (.type "dict"):=by decide +kernel
section
variable {X:Cx}
def rIsi (K:PySem.W.Frag)(c:V)(cv:Value):List V->Hp->VK->Prop:=fun xs H Q=>∃ x t b,xs=[x,c]/\a8a K H x t/\PySem.W.kitOne K t cv=some b/\Q (.bl b) H
theorem call_isi {c:V}{cv:Value}(hc:∀ u,a6j c u->u=cv):b2t X (.builtin "isinstance") (rIsi X.K c cv):=by
 intro pins s σ H xs us Q I r h;obtain ⟨x,t,b,rfl,ty,e,q⟩:=h;obtain ⟨u,w,rfl,ru,rw'⟩:=a6q.two r;cases hc w rw';exact isinst_ok I ru ty e fun tk=>⟨.bl b,H,I.tok tk,rfl,q⟩
theorem c2b {x:Str}{T:String}{p p2 pos:Pos}{e:Expr}{te:TE}(hg:Gl X "isinstance")(hm:X.mg "isinstance" = none)(he:PE X e te)(hmT:X.mg x=none)(hT:bootBuiltins x=some (.type T))(hgT:Gl X x:=by rfl)(hn:x ≠ "__name__":=by decide)(hd:(x == ("__debug__":Str)) = false:=by decide)
  (h1:starEach [e,.Name x p2] X.env=(false,eval e X.env) :: starEach [.Name x p2] X.env:=by rfl) (h2:(backTo pos (starEach [.Name x p2] X.env)).any (·.1) = false:=by rfl) :
  PE X (.Call (.Name "isinstance" p) [e,.Name x p2] [] pos) (tCB (rIsi X.K (.ty T) (.type T)) (b9v te (b9v (tC (.ty T)) tNil))):=
 a2g (call_isi fun u hu=>hu) hg hm boot_isinstance (a0a he (a0a (pe_bltn hgT hmT hT rfl hn hd) a0d) h1) (by decide) (by decide) h1 h2
end
end L2
namespace Tw
theorem pop_dec {n:Nat}(h:¬ n=0):n / 2 < n:=Nat.div_lt_self (Nat.pos_of_ne_zero h) (by decide)
def pop (n:Nat):Nat:=if h:n=0 then 0 else n % 2 + pop (n / 2)
termination_by n
decreasing_by exact pop_dec h
theorem c2f:pop 0=0:=by rw [pop]; rfl
theorem b5j (n:Nat):pop n=n % 2 + pop (n / 2):=by
 by_cases h:n=0
 ·subst h; rw [c2f]
 ·rw [pop,dif_neg h]
theorem d7z (a b:Nat):(a &&& b) % 2=(a % 2) * (b % 2):=by
 have h:=Nat.and_two_pow_sub_one_eq_mod;have ha:a % 2=a &&& 1:=(Nat.and_one_is_mod a).symm;rw [<- Nat.and_one_is_mod,<- Nat.and_one_is_mod,<- Nat.and_one_is_mod]
 have e:(a &&& b) &&& 1=(a &&& 1) &&& (b &&& 1):=by
  apply Nat.eq_of_testBit_eq;intro i;simp only [Nat.testBit_and];cases a.testBit i <;> cases b.testBit i <;> cases (1:Nat).testBit i <;> rfl
 rw [e,Nat.and_one_is_mod a,Nat.and_one_is_mod b]
 rcases Nat.mod_two_eq_zero_or_one a with h | h <;> rcases Nat.mod_two_eq_zero_or_one b with h' | h' <;> rw [h,h'] <;> rfl
theorem c3n (a b:Nat):(a &&& b) / 2=(a / 2) &&& (b / 2):=by
 apply Nat.eq_of_testBit_eq;intro i;rw [Nat.testBit_and,Nat.testBit_div_two,Nat.testBit_div_two,Nat.testBit_div_two,Nat.testBit_and]
theorem pop_pred:∀ n:Nat,0 < n->pop (n &&& (n - 1)) + 1=pop n:=by
 intro n
 induction n using Nat.strongRecOn with
 | ind n ih=>
  intro h;rw [b5j (n &&& (n - 1)),b5j n,d7z,c3n]
  rcases Nat.mod_two_eq_zero_or_one n with e | e
  ·have h2:0 < n / 2:=by omega
   have e2:(n - 1) / 2=n / 2 - 1:=by omega
   have:=ih (n / 2) (by omega) h2;rw [e2,e];omega
  ·have e2:(n - 1) / 2=n / 2:=by omega
   have e3:(n - 1) % 2=0:=by omega
   have e4:n / 2 &&& n / 2=n / 2:=Nat.and_self _;rw [e2,e3,e,e4];omega
theorem and_pred_lt {n:Nat}(h:0 < n):n &&& (n - 1) < n:=by
 have:=Nat.and_le_right (n:=n) (m:=n - 1);omega
def cnt (p:Nat->Bool):Nat->Nat
 | 0=>0
 | k + 1=>cnt p k + (p k).toNat
theorem cnt_succ' (p:Nat->Bool):∀ k,cnt p (k + 1) = (p 0).toNat + cnt (fun i=>p (i + 1)) k
 | 0=>by simp [cnt]
 | k + 1=>by
  have:=cnt_succ' p k;rw [cnt,this,cnt];omega
theorem d1r {p q:Nat->Bool}:∀ {k:Nat},(∀ i,i < k->p i=q i)->cnt p k=cnt q k
 | 0,_=>rfl
 | k + 1,h=>by rw [cnt,cnt,d1r fun i hi=>h i (by omega),h k (by omega)]
theorem cnt_le (p:Nat->Bool):∀ k,cnt p k <= k
 | 0=>Nat.le_refl _
 | k + 1=>by
  have:=cnt_le p k;rw [cnt];cases p k <;> simp <;> omega
theorem d7c:∀ (k n:Nat),n < 2 ^ k->pop n=cnt n.testBit k
 | 0,n,h=>by
  have:n=0:=by simpa using h
  subst this;exact c2f
 | k + 1,n,h=>by
  rw [b5j,cnt_succ'];have h2:n / 2 < 2 ^ k:=by rw [Nat.pow_succ] at h; omega
  rw [d7c k (n / 2) h2]
  have e0:n % 2=(n.testBit 0).toNat:=by
   rw [Nat.testBit_zero]
   rcases Nat.mod_two_eq_zero_or_one n with e | e <;> rw [e] <;> rfl
  rw [e0]
  congr 1
  exact d1r fun i _=>by rw [Nat.testBit_div_two]
def bI (b:Bool):Int:=if b then 1 else 0
theorem b8b {a b k:Nat}(h1:a < 2 ^ k)(h2:b < 2 ^ k):a ^^^ b < 2 ^ k:=Nat.xor_lt_two_pow h1 h2
theorem or_div2 (a b:Nat):(a ||| b) / 2=(a / 2) ||| (b / 2):=by
 apply Nat.eq_of_testBit_eq;intro i;rw [Nat.testBit_or,Nat.testBit_div_two,Nat.testBit_div_two,Nat.testBit_div_two,Nat.testBit_or]
theorem xor_div2 (a b:Nat):(a ^^^ b) / 2=(a / 2) ^^^ (b / 2):=by
 apply Nat.eq_of_testBit_eq;intro i;rw [Nat.testBit_xor,Nat.testBit_div_two,Nat.testBit_div_two,Nat.testBit_div_two,Nat.testBit_xor]
theorem d1x (a:Nat):a % 2=(a.testBit 0).toNat:=by
 rw [Nat.testBit_zero]
 rcases Nat.mod_two_eq_zero_or_one a with e | e <;> rw [e] <;> rfl
theorem or_mod2 (a b:Nat):(a ||| b) % 2 + (a &&& b) % 2=a % 2 + b % 2:=by
 rw [d1x,d1x (a &&& b),d1x a,d1x b,Nat.testBit_or,Nat.testBit_and];cases a.testBit 0 <;> cases b.testBit 0 <;> rfl
theorem xor_mod2 (a b:Nat):(a ^^^ b) % 2 + (a &&& b) % 2=(a ||| b) % 2:=by
 rw [d1x,d1x (a &&& b),d1x (a ||| b),Nat.testBit_or,Nat.testBit_and,Nat.testBit_xor];cases a.testBit 0 <;> cases b.testBit 0 <;> rfl
theorem c5h:∀ a b:Nat,(a ||| b) + (a &&& b) = a + b:=by
 intro a
 induction a using Nat.strongRecOn with
 | ind a ih=>
  intro b
  by_cases ha:a=0
  ·subst ha; simp
  ·have q:=ih (a / 2) (by omega) (b / 2);have h1:=or_div2 a b;have h2:=c3n a b;have h3:=or_mod2 a b;rw [<- h1,<- h2] at q;omega
theorem b5h:∀ a b:Nat,(a ^^^ b) + (a &&& b) = a ||| b:=by
 intro a
 induction a using Nat.strongRecOn with
 | ind a ih=>
  intro b
  by_cases ha:a=0
  ·subst ha; simp
  ·have q:=ih (a / 2) (by omega) (b / 2);have h1:=or_div2 a b;have h2:=c3n a b;have h4:=xor_div2 a b;have h3:=xor_mod2 a b;rw [<- h1,<- h2,<- h4] at q;omega
theorem pow2_cast (n:Nat):((2:Int) ^ n) = ((2 ^ n:Nat):Int):=by push_cast; rfl
theorem b9c (y:Int){n:Nat}(h:0 < n):∃ k:Nat,y % (n:Int) = (k:Int)/\k < n:=by
 have h1:=Int.emod_nonneg y (show ((n:Int)) ≠ 0 by omega);have h2:=Int.emod_lt_of_pos y (show (0:Int) < (n:Int) by omega);exact ⟨(y % n).toNat,by omega,by omega⟩
end Tw
namespace L2
open PySem PySem.Spec PyProof.Rows
variable {a p:Addr}{o:HO}{H:Hp}{K:PySem.W.Frag}
theorem scal_ii (a b:Int):scal (.int a) (.int b) = true:=rfl
theorem scal_bb (a b:Bool):scal (.bl a) (.bl b) = true:=rfl
theorem scal_ss (a b:Str):scal (.str a) (.str b) = true:=rfl
theorem b1g (a b:Nat):Builtin.bitAnd (a:Int) (b:Int) = ((a &&& b:Nat):Int):=by
 rw [bitAnd_pp (by omega) (by omega)]; simp
theorem bitOr_nat (a b:Nat):Builtin.bitOr (a:Int) (b:Int) = ((a ||| b:Nat):Int):=by
 have h:Builtin.bitOr (a:Int) (b:Int) = a + b - ((a &&& b:Nat):Int):=by rw [bitOr_and,b1g]
 have e:=Tw.c5h a b;omega
theorem c5a (a b:Nat):Builtin.bitXor (a:Int) (b:Int) = ((a ^^^ b:Nat):Int):=by
 have h:Builtin.bitXor (a:Int) (b:Int) = ((a ||| b:Nat):Int) - ((a &&& b:Nat):Int):=by
  show Builtin.bitOr _ _ - Builtin.bitAnd _ _=_;rw [bitOr_nat,b1g]
 have e:=Tw.b5h a b;omega
theorem bitAnd_bit (x i:Nat):Builtin.bitAnd ((x:Int) / 2 ^ i) 1=Tw.bI (x.testBit i):=by
 have e:((x:Int) / 2 ^ i) = ((x / 2 ^ i:Nat):Int):=by push_cast; rfl
 have e1:(1:Int) = ((1:Nat):Int):=rfl;rw [e,e1,b1g,Nat.and_one_is_mod];rw [Nat.testBit_eq_decide_div_mod_eq];unfold Tw.bI
 rcases Nat.mod_two_eq_zero_or_one (x / 2 ^ i) with h | h <;> rw [h] <;> rfl
theorem bitAnd_pred {n:Nat}(h:0 < n):Builtin.bitAnd (n:Int) ((n:Int) - 1) = ((n &&& (n - 1):Nat):Int):=by
 have e:((n:Int) - 1) = ((n - 1:Nat):Int):=by omega
 rw [e,b1g]
theorem SqT.upd {K:PySem.W.Frag}{H:Hp}{p a:Addr}{o:HO}{xs:List V}(h:H p=none)(s:SqT K H a xs):SqT K (upd H p o) a xs:=(a0b h o).tup s
theorem a2c.updR {H1:Hp}(s:a2c H H1)(h:H1 p=none):a2c H (upd H1 p o):=s.trans (a0b h o)
theorem upd_get {u:HO}(h:H p=none)(s:H a=some u):upd H p o a=some u:=a0b h o a u s
section
variable {K:PySem.W.Frag}{H:Hp}{Q:VK}{a b:Addr}{i j:Int}{x y:Str}{p q:Bool}
theorem rEq_i:rEq (.int i) (.int j) H Q=Q (.bl (decide (i=j))) H:=by
 unfold rEq;rw [scal_ii];simp only [V.int.injEq,true_and]
theorem rNe_i:rNe (.int i) (.int j) H Q=Q (.bl (!decide (i=j))) H:=by
 unfold rNe;rw [scal_ii];simp only [V.int.injEq,true_and]
theorem rNe_b:rNe (.bl p) (.bl q) H Q=Q (.bl (!decide (p=q))) H:=by
 unfold rNe;rw [scal_bb];simp only [V.bl.injEq,true_and]
theorem rEq_s:rEq (.str x) (.str y) H Q=Q (.bl (decide (x=y))) H:=by
 unfold rEq;rw [scal_ss];simp only [V.str.injEq,true_and]
theorem rNe_s:rNe (.str x) (.str y) H Q=Q (.bl (!decide (x=y))) H:=by
 unfold rNe;rw [scal_ss];simp only [V.str.injEq,true_and]
end
theorem cxOf_K {CX:CXT}{P:Program}{w:World}{mg:Str->Option Value}{base:Heap}{N:List Str}{qual:Str}{scope:Scope}{f:Addr}{cd:Value}{A:Around}{outer:List Env}{s:Shared}{E:XK}:(cxOf CX P w K mg base N qual scope f cd A outer s H E).K=K:=rfl
theorem cpow_n {i:Int}{n:Nat}(h:n <= 1000)(h2:i.natAbs < 2 ^ 64:=by decide):CPow i (n:Int):=⟨by omega,by omega,h2⟩
theorem c0x (is:List Int):SeqAt.shaped (.tuple (is.map PyData.int)) = true:=by
 simp [SeqAt.shaped,PyData.canLay0,PyData.depth,PySem.W.ke_canLayAll0,PySem.W.ke_depthAll]
theorem c8f {K:PySem.W.Frag}{H:Hp}:∀ is:List Int,DVs K H (is.map V.int) (is.map PyData.int)
 | []=>.nil
 | _ :: r=>.cons (.int _) (c8f r)
theorem d7j:∀ is js:List Int,PyData.eqvAll (is.map PyData.int) (js.map PyData.int) = decide (is=js)
 | [],[]=>by simp [PyData.eqvAll]
 | [],_ :: _=>by simp [PyData.eqvAll]
 | _ :: _,[]=>by simp [PyData.eqvAll]
 | a :: r,b :: t=>by
  simp only [List.map_cons,PyData.eqvAll,PyData.eqv,d7j r t]
  by_cases h:a=b <;> by_cases h':r=t <;> simp [h,h']
theorem rNeD_ints {Q:VK}{b:Addr}{is js:List Int}(ha:SqT K H a (is.map V.int))(hb:SqT K H b (js.map V.int))(q:Q (.bl (!decide (is=js))) H):rNeD K (.ref a) (.ref b) H Q:=
 ⟨_,_,.tup ha (c8f is),.tup hb (c8f js),c0x is,c0x js,by rw [PyData.eqv,d7j]; exact q⟩
section
variable {K:PySem.W.Frag}{H:Hp}{Q:VK}{a b:Addr}{i1 i2 i3 j1 j2 j3:Int}
theorem rNeD_2 (ha:SqT K H a [.int i1,.int i2])(hb:SqT K H b [.int j1,.int j2])(q:Q (.bl (!decide ([i1,i2] = [j1,j2]))) H):rNeD K (.ref a) (.ref b) H Q:=rNeD_ints (is:=[i1,i2]) (js:=[j1,j2]) ha hb q
end
end L2
namespace L2
open PySem PySem.Spec PyProof.Rows
variable {H:Hp}{xs:List V}{σ:St}{g:TG}{tb:TS}{D:c4b}
section
variable {K:PySem.W.Frag}{H:Hp}{Q:VK}{R:Bool->Hp->Prop}{D:c4b}{σ:St}{t u:TS}{te ta tb:TE}{tt tu:TT}{tA:TA}{g:TG}{gs:TGs}{v w:V}{a b:Addr}{i j:Int}{p q:Bool}{x y:Str}{n m k:Nat}
theorem st_seq (h:t { D with nx:=u D } σ H):tSeq t u D σ H:=h
theorem st_next (h:D.nx σ H):tNext D σ H:=h
theorem st_asg (h:te σ H fun x H1=>g x σ H1 D.nx):tAsg te g D σ H:=h
theorem st_ret (h:te σ H D.rt):tRet te D σ H:=h
theorem st_drop (h:te σ H fun _ H1=>D.nx σ H1):tDrop te D σ H:=h
theorem st_if (h:tt σ H fun b H1=>if b=true then t D σ H1 else u D σ H1):tIfS tt t u D σ H:=h
theorem st_gname {P:St->Hp->Prop}(h:P (σ.set n (some v)) H):gName n v σ H P:=h
theorem st_gtup {P:St->Hp->Prop}(s:SqT K H a xs)(l:xs.length=n)(h:gs xs σ H P):gTup K n gs (.ref a) σ H P:=⟨a,xs,rfl,s,l,h⟩
theorem st_gcons {P:St->Hp->Prop}{r:List V}(h:g v σ H fun σ' H'=>gs r σ' H' P):gCons g gs (v :: r) σ H P:=⟨v,r,rfl,h⟩
theorem st_gnil {P:St->Hp->Prop}(h:P σ H):gNil [] σ H P:=⟨rfl,h⟩
theorem st_c (h:Q v H):tC v σ H Q:=h
theorem st_var (e:σ[n]? = some (some v))(h:Q v H):tVar n σ H Q:=⟨v,e,h⟩
theorem st_op {r:R2}(h:ta σ H fun x H1=>tb σ H1 fun y H2=>r x y H2 Q):tOp r ta tb σ H Q:=h
theorem st_un {r:V->Hp->VK->Prop}(h:ta σ H fun x H1=>r x H1 Q):tUn r ta σ H Q:=h
theorem st_test (h:te σ H fun x H'=>∃ k,x=.bl k/\R k H'):tTest te σ H R:=h
theorem st_tB (h:te σ H fun x H'=>∃ k,x=.bl k/\R k H'):tB te σ H R:=h
theorem st_bl {P:Bool->Prop}(h:P p):∃ k,V.bl p=V.bl k/\P k:=⟨p,rfl,h⟩
theorem st_and (h:tt σ H fun c H1=>if c=true then tu σ H1 R else R false H1):tAnd tt tu σ H R:=h
theorem st_or (h:tt σ H fun c H1=>if c=true then R true H1 else tu σ H1 R):tOr tt tu σ H R:=h
theorem st_not (h:tt σ H fun c H1=>R (!c) H1):tNot tt σ H R:=h
theorem st_andV (h:ta σ H fun x H1=>∃ c,x=.bl c/\if c=true then tb σ H1 Q else Q (.bl false) H1):tAndV ta tb σ H Q:=h
theorem st_notV (h:ta σ H fun x H1=>∃ c,x=.bl c/\Q (.bl (!c)) H1):tNotV ta σ H Q:=h
theorem st_ifE (h:tt σ H fun c H1=>if c=true then ta σ H1 Q else tb σ H1 Q):tIf tt ta tb σ H Q:=h
theorem st_call {sp:Sp}{dvs:List V}{E:XK}(h:tA σ H fun vs H1=>sp (vs ++ dvs) H1 Q E):tCall sp dvs E tA σ H Q:=h
theorem st_cb {r:List V->Hp->VK->Prop}(h:tA σ H fun vs H1=>r vs H1 Q):tCB r tA σ H Q:=h
theorem st_cons {P:List V->Hp->Prop}(h:te σ H fun x H1=>tA σ H1 fun xs H2=>P (x :: xs) H2):b9v te tA σ H P:=h
theorem st_nil {P:List V->Hp->Prop}(h:P [] H):tNil σ H P:=h
theorem st_tup (h:tA σ H fun xs H1=>xs.length <= sizeLine/\∀ p,H1 p=none->Q (.ref p) (upd H1 p (.tup xs))):tTup tA σ H Q:=h
theorem st_lst (h:tA σ H fun xs H1=>xs.length <= sizeLine/\∀ p,H1 p=none->Q (.ref p) (upd H1 p (.lst xs))):tLst tA σ H Q:=h
theorem st_size {A:Prop}(h:Nat.ble xs.length 1000=true)(q:A):xs.length <= sizeLine/\A:=⟨Nat.le_of_lt (a6d (Nat.le_of_ble_eq_true h)),q⟩
theorem st_part {P:Option Int->Hp->Prop}(h:te σ H fun x H1=>∃ i,x=.int i/\P (some i) H1):tPart te σ H P:=h
theorem st_int {P:Int->Prop}(h:P i):∃ k,V.int i=V.int k/\P k:=⟨i,rfl,h⟩
theorem st_nopart {P:Option Int->Hp->Prop}(h:P none H):tNoPart σ H P:=h
theorem st_sl {r:V->Option Int->Option Int->Hp->VK->Prop}{tl th:TO}(h:te σ H fun x H1=>tl σ H1 fun l H2=>th σ H2 fun u H3=>r x l u H3 Q):tSl r te tl th σ H Q:=h
theorem st_slL {lo hi:Option Int}(s:SqL K H a xs)(h:∀ p,H p=none->Q (.ref p) (upd H p (.lst (d3s xs lo hi)))):rSlL K (.ref a) lo hi H Q:=⟨a,xs,rfl,s,h⟩
theorem d6y {g:Int->Int->V}(h:Q (g i j) H):rI0 g (.int i) (.int j) H Q:=⟨i,j,rfl,rfl,h⟩
theorem st_i {C:Int->Int->Prop}{g:Int->Int->V}(c:C i j)(h:Q (g i j) H):rI C g (.int i) (.int j) H Q:=⟨i,j,rfl,rfl,c,h⟩
theorem st_u {g:Int->V}(h:Q (g i) H):rU g (.int i) H Q:=⟨i,rfl,h⟩
theorem st_eqi (h:Q (.bl (decide (i=j))) H):rEq (.int i) (.int j) H Q:=by rw [rEq_i]; exact h
theorem st_nei (h:Q (.bl (!decide (i=j))) H):rNe (.int i) (.int j) H Q:=by rw [rNe_i]; exact h
theorem st_neb (h:Q (.bl (!decide (p=q))) H):rNe (.bl p) (.bl q) H Q:=by rw [rNe_b]; exact h
theorem st_eqs (h:Q (.bl (decide (x=y))) H):rEq (.str x) (.str y) H Q:=by rw [rEq_s]; exact h
theorem st_nes (h:Q (.bl (!decide (x=y))) H):rNe (.str x) (.str y) H Q:=by rw [rNe_s]; exact h
theorem st_ixT (s:SqT K H a xs)(e:atI xs i=some v)(h:Q v H):rIxT K (.ref a) (.int i) H Q:=⟨a,xs,i,v,rfl,rfl,s,e,h⟩
theorem b6f (s:SqL K H a xs)(e:atI xs i=some v)(h:Q v H):rIxL K (.ref a) (.int i) H Q:=⟨a,xs,i,v,rfl,rfl,s,e,h⟩
theorem st_andN (h:Q (.int ((n &&& m:Nat):Int)) H):rI0 (fun i j=>.int (Builtin.bitAnd i j)) (.int (n:Int)) (.int (m:Int)) H Q:=d6y (by rw [b1g]; exact h)
theorem st_orN (h:Q (.int ((n ||| m:Nat):Int)) H):rI0 (fun i j=>.int (Builtin.bitOr i j)) (.int (n:Int)) (.int (m:Int)) H Q:=d6y (by rw [bitOr_nat]; exact h)
theorem st_xorN (h:Q (.int ((n ^^^ m:Nat):Int)) H):rI0 (fun i j=>.int (Builtin.bitXor i j)) (.int (n:Int)) (.int (m:Int)) H Q:=d6y (by rw [c5a]; exact h)
theorem st_bit (h:Q (.int (Tw.bI (n.testBit k))) H):rI0 (fun i j=>.int (Builtin.bitAnd i j)) (.int ((n:Int) / 2 ^ k)) (.int 1) H Q:=d6y (by rw [bitAnd_bit]; exact h)
theorem st_shrN (h:Q (.int (i / 2 ^ k)) H):rI (fun _ j=>0 <= j) (fun i j=>.int (i / 2 ^ j.toNat)) (.int i) (.int (k:Int)) H Q:=st_i (by omega) (by rw [Int.toNat_natCast]; exact h)
theorem st_shl1 (c:k <= 1000)(h:Q (.int ((2 ^ k:Nat):Int)) H):rI CPow (fun i j=>.int (i * 2 ^ j.toNat)) (.int 1) (.int (k:Int)) H Q:=st_i (cpow_n c) (by rw [Int.toNat_natCast,Int.one_mul,Tw.pow2_cast]; exact h)
theorem st_modN (c:0 < n)(h:∀ k:Nat,i % (n:Int) = (k:Int)->k < n->Q (.int (k:Int)) H):rI (fun _ j=>0 < j) (fun i j=>.int (i % j)) (.int i) (.int (n:Int)) H Q:=st_i (by omega) (by
 obtain ⟨k,e,l⟩:=Tw.b9c i c
 rw [e]; exact h k e l)
theorem a6n {c:V}{cv t:Value}(ty:a8a K H v t)(e:PySem.W.kitOne K t cv=some p)(h:Q (.bl p) H):rIsi K c cv [v,c] H Q:=⟨v,t,p,rfl,ty,e,h⟩
end
theorem b6p {c:Prop} [Decidable c]{A B:Prop}(h1:c->A)(h2:¬ c->B):if decide c=true then A else B:=by
 by_cases h:c
 ·rw [decide_eq_true h]; exact iteT (h1 h)
 ·rw [decide_eq_false h]; exact iteF (h2 h)
theorem iteN {c:Prop} [Decidable c]{A B:Prop}(h1:¬ c->A)(h2:c->B):if (!decide c) = true then A else B:=by
 by_cases h:c
 ·rw [decide_eq_true h]; exact iteF (h2 h)
 ·rw [decide_eq_false h]; exact iteT (h1 h)
theorem pow_pos2 (n:Nat):0 < 2 ^ n:=Nat.pow_pos (by decide)
theorem for_range0 {n:Nat}(Pv:Nat->St->Hp->Prop)(h0:Pv 0 σ H)
  (hs:∀ i σ H,i < n->Pv i σ H->g (.int (i:Int)) σ H fun σ2 H2=>tb { D with nx:=Pv (i + 1),ct:=Pv (i + 1),bk:=D.nx } σ2 H2) (hd:∀ σ H,Pv n σ H->D.nx σ H) :
  ∃ W:Nat->Nat->St->Hp->Prop,(∃ m,W 0 m σ H)/\∀ i m σ H,W i m σ H->
   ((Itr 0 n).stop i H/\D.nx σ H)\/((Itr 0 n).go i H/\∃ N:St->Hp->Prop,(∀ σ' H',N σ' H'->∃ m',m' < m/\W (i + 1) m' σ' H')/\∀ x H',(Itr 0 n).yld i H x H'->g x σ H' fun σ2 H2=>tb { D with nx:=N,ct:=N,bk:=D.nx } σ2 H2):=
 for_range Pv h0 (fun i σ H hi hp=>by rw [Int.zero_add]; exact hs i σ H hi hp) hd
theorem st_for_range {ta:TE}{n:Nat}(hn:n <= 1000000)(e:∀ P:V->Hp->Prop,P (.int (n:Int)) H->ta σ H P)(Pv:Nat->St->Hp->Prop)(h0:Pv 0 σ H)
  (hs:∀ i σ H,i < n->Pv i σ H->g (.int (i:Int)) σ H fun σ2 H2=>tb { D with nx:=Pv (i + 1),ct:=Pv (i + 1),bk:=D.nx } σ2 H2) (hd:∀ σ H,Pv n σ H->D.nx σ H):tFor (iRng1 (b9v ta tNil)) g tb D σ H:=
 e _ ⟨(n:Int),rfl,by omega,by omega,for_range0 Pv h0 hs hd⟩
theorem at_i {cs:List Int}{i:Nat}(h:i < cs.length):∃ c,atI (cs.map V.int) (i:Int) = some (.int c):=
 ⟨cs[i],b2d (by rw [List.getElem?_map,List.getElem?_eq_getElem h]; rfl)⟩
theorem one_mod (c:Int)(d:Int)(hd:0 < d)(hd2:d <= 1000):∃ n:Nat,1 + c % d=(n:Int)/\0 < n/\(n:Int) <= d:=by
 have h1:=Int.emod_nonneg c (show d ≠ 0 by omega);have h2:=Int.emod_lt_of_pos c hd;exact ⟨(1 + c % d).toNat,by omega,by omega,by omega⟩
theorem iteNT {A B:Prop}(h:B):if (!true) = true then A else B:=iteF h
theorem iteNF {A B:Prop}(h:A):if (!false) = true then A else B:=iteT h
end L2
namespace L2
open PySem PySem.Spec PyProof.Rows
variable {X:Cx}{env:Env}{H:Hp}{sc scope:Scope}{s:Shared}{σ:St}{y:Str}{te:TE}{tt:TT}{Q:VK}
def d9n (env:Env):List (Str × NameKind)->List (Str × Addr)->List (Str × Addr)
 | [],acc=>acc
 | (n,k) :: r,acc=>if (k == NameKind.free) = true then d9n env r ((n,(env.cells.lookup n).getD 0) :: acc) else d9n env r acc
theorem clGo_eq (env:Env):∀ (names:List (Str × NameKind)) (acc:List (Str × Addr)),(∀ p ∈ names,p.2=.free->∃ c,env.cells.lookup p.1=some c)->
  (forIn names acc fun x r=>match x with
   | (name,kind)=>if (kind == NameKind.free) = true then (do let a <- cellOf env name; pure (ForInStep.yield ((name,a) :: r)):Sem _) else pure (ForInStep.yield r)) = (pure (d9n env names acc):Sem _)
 | [],_,_=>rfl
 | (n,k) :: r,acc,h=>by
  rw [List.forIn_cons]
  by_cases hk:k=NameKind.free
  ·subst hk;obtain ⟨c,hc⟩:=h (n,.free) List.mem_cons_self rfl;have e:cellOf env n=pure c:=by unfold cellOf; rw [hc]
   simp only [beq_self_eq_true,if_true,e,pure_bind,d9n,hc,Option.getD_some];exact clGo_eq env r _ fun p hp=>h p (List.mem_cons_of_mem _ hp)
  ·have hb:(k == NameKind.free) = false:=by simpa using hk
   simp only [hb,Bool.false_eq_true,if_false,pure_bind,d9n];exact clGo_eq env r _ fun p hp=>h p (List.mem_cons_of_mem _ hp)
theorem d5h (h:∀ p ∈ scope.names,p.2=.free->∃ c,env.cells.lookup p.1=some c):closureFor scope env=pure (d9n env scope.names []):=by
 unfold closureFor;have e:=clGo_eq env scope.names [] h;dsimp only;rw [e];rfl
theorem b5x (env:Env){y:Str}:∀ (names:List (Str × NameKind)) (acc:List (Str × Addr)),(∀ p ∈ names,p.2=.free->∃ c,env.cells.lookup p.1=some c)->
  ∀ c,(d9n env names acc).lookup y=some c->acc.lookup y=some c\/(env.cells.lookup y=some c)
 | [],_,_,_,e=>.inl e
 | (n,k) :: r,acc,h,c,e=>by
  rw [d9n] at e
  by_cases hk:(k == NameKind.free) = true
  ·rw [if_pos hk] at e;have hk':k=NameKind.free:=by simpa using hk
   obtain ⟨c',hc'⟩:=h (n,k) List.mem_cons_self hk'
   rcases b5x env r _ (fun p hp=>h p (List.mem_cons_of_mem _ hp)) c e with q | q
   ·rw [List.lookup_cons] at q
    cases hb:y == n with
    | true=>
     rw [hb] at q;have hb':y=n:=eq_of_beq hb;subst hb';have hc'':env.cells.lookup y=some c':=hc';rw [hc'',Option.getD_some] at q;rw [hc''];exact .inr q
    | false=>rw [hb] at q; exact .inl q
   ·exact .inr q
  ·rw [if_neg hk] at e;exact b5x env r _ (fun p hp=>h p (List.mem_cons_of_mem _ hp)) c e
theorem b9a (env:Env){y:Str}:∀ (names:List (Str × NameKind)) (acc:List (Str × Addr)),(y,NameKind.free) ∈ names\/(∃ c,acc.lookup y=some c)->∃ c,(d9n env names acc).lookup y=some c
 | [],_,h=>h.elim (fun z=>nomatch z) id
 | (n,k) :: r,acc,h=>by
  rw [d9n]
  have up:∀ v:Addr,(∃ c,acc.lookup y=some c)->∃ c,((n,v) :: acc).lookup y=some c:=fun v ⟨c,e⟩=>by
   rw [List.lookup_cons]
   cases hb:y == n with
   | true=>exact ⟨v,rfl⟩
   | false=>exact ⟨c,e⟩
  by_cases hk:(k == NameKind.free) = true
  ·rw [if_pos hk];refine b9a env r _ ?_
   rcases h with h | h
   ·rcases List.mem_cons.mp h with z | z
    ·cases z;exact .inr ⟨(env.cells.lookup y).getD 0,by rw [List.lookup_cons,beq_self_eq_true]⟩
    ·exact .inl z
   ·exact .inr (up _ h)
  ·rw [if_neg hk];refine b9a env r _ ?_
   rcases h with h | h
   ·rcases List.mem_cons.mp h with z | z
    ·cases z;exact absurd rfl hk
    ·exact .inl z
   ·exact .inr h
def rlb (env:Env)(n:Str)(k:NameKind):NameKind:=if (k == .free && env.scope.kind == .function && env.kindOf n == some .cell) = true then .cell else k
theorem c0g (env:Env)(y:Str):∀ names:List (Str × NameKind),
  (names.map fun (n,k)=>if (k == NameKind.free && env.scope.kind == .function && env.kindOf n == some .cell) = true then (n,NameKind.cell) else (n,k)).lookup y=(names.lookup y).map (rlb env y)
 | []=>rfl
 | (n,k) :: r=>by
  have e:(if (k == NameKind.free && env.scope.kind == .function && env.kindOf n == some .cell) = true then (n,NameKind.cell) else (n,k)) = (n,rlb env n k):=by
   unfold rlb; split <;> rfl
  rw [List.map_cons];show List.lookup y ((if (k == NameKind.free && env.scope.kind == .function && env.kindOf n == some .cell) = true then (n,NameKind.cell) else (n,k)) :: _) = _;rw [e,List.lookup_cons,List.lookup_cons]
  cases hb:y == n with
  | true=>have:=eq_of_beq hb; subst this; rfl
  | false=>exact c0g env y r
theorem a4j (scope:Scope)(env:Env)(y:Str):(relabel scope env).names.lookup y=(scope.names.lookup y).map (rlb env y):=c0g env y scope.names
theorem mem_of_lookup {α β:Type} [BEq α] [LawfulBEq α]{y:α}{k:β}:∀ {l:List (α × β)},l.lookup y=some k->(y,k) ∈ l
 | (n,j) :: r,e=>by
  rw [List.lookup_cons] at e
  cases hb:y == n with
  | true=>rw [hb] at e; have:=eq_of_beq hb; subst this; cases e; exact List.mem_cons_self
  | false=>rw [hb] at e; exact List.mem_cons_of_mem _ (mem_of_lookup e)
structure a8r (sc:Scope)(x:Str)(scope:Scope):Prop where
 kind:scope.kind=.function
 cell:∀ y ∈ scope.names,y.2 ≠ .cell
 own:scope.names.lookup x=some .local
 loc:∀ y ∈ scope.names,y.2=.local->y.1=x\/y.1=(".0":Str)
 nam:∀ y ∈ scope.names,y.2=.local->scope.names.lookup y.1=some .local
 free:∀ y ∈ scope.names,y.2=.free->sc.names.lookup y.1=some .cell\/sc.names.lookup y.1=some .free
 two:∀ y ∈ scope.names,y.2=.free->y.1 ≠ x
def Cx.comp (X:Cx)(M:List Str)(scope:Scope)(x:Str)(C:Addr)(s:Shared)(H:Hp)(ex:List Addr):Cx:=
 { X with N:=x :: M,s₀:=s,H₀:=H,env:=compEnvC scope (d9n X.env scope.names []) C X.env,outer:=X.stack,ex:=ex,fn:=fun _=>false,pn:=[],xe:=fun _ _=>False }
section
variable {X:Cx}{M:List Str}{pins:List (Addr × Obj)}{σ:St}{H:Hp}{s:Shared}{scope:Scope}{x:Str}
theorem a8r.has (S:a8r X.env.scope x scope)(ok:X.Ok):∀ p ∈ scope.names,p.2=.free->∃ c,X.env.cells.lookup p.1=some c:=fun p hp e=>ok.has p.1 (S.free p hp e)
theorem a8r.cells (S:a8r X.env.scope x scope)(ok:X.Ok){y:Str}{c:Addr}(e:(d9n X.env scope.names []).lookup y=some c):X.env.cells.lookup y=some c:=by
 rcases b5x X.env scope.names [] (S.has ok) c e with z | z
 ·cases z
 ·exact z
theorem a8r.sees (S:a8r X.env.scope x scope)(hy:(relabel scope X.env).names.lookup y ≠ some .local)(hv:Vis (relabel scope X.env) y):(y,NameKind.free) ∈ scope.names/\((relabel scope X.env).names.lookup y=some .cell\/(relabel scope X.env).names.lookup y=some .free):=by
 unfold Vis at hv;rw [a4j] at hv ⊢
 cases e:scope.names.lookup y with
 | none=>rw [e] at hv; rcases hv with z | z | z <;> cases z
 | some k=>
  have hm:=mem_of_lookup e;rw [e] at hv
  have hk:k=.free:=by
   by_cases hf:k=.free
   ·exact hf
   ·have hr:rlb X.env y k=k:=by
     unfold rlb;have:(k == NameKind.free) = false:=by simpa using hf
     rw [this]; rfl
    rw [Option.map_some,hr] at hv
    rcases hv with z | z | z
    ·rw [a4j,e,Option.map_some,hr] at hy;exact absurd z hy
    ·exact absurd (Option.some.inj z) (S.cell _ hm)
    ·exact Option.some.inj z
  subst hk;refine ⟨hm,?_⟩;rw [Option.map_some];unfold rlb
  split
  ·exact .inl rfl
  ·exact .inr rfl
theorem a8r.ok (S:a8r X.env.scope x scope)(I:Inv X pins σ H s){C:Addr}(hC:s.heap.objs.size <= C){fp:List Addr}(hf:∀ b ∈ fp,FpOk X pins H b)(hl:∀ b ∈ fp,b < s.heap.objs.size):(X.comp M scope x C s H fp).Ok where
 mod:=I.ok.mod
 kind:=S.kind
 glob:=I.ok.glob
 blt:=I.ok.blt
 above:=hC
 inj:=fun y z c e1 e2=>I.ok.inj y z c (S.cells I.ok e1) (S.cells I.ok e2)
 has:=fun y hy=>by
  have hv:Vis (relabel scope X.env) y:=.inr hy
  have hne:(relabel scope X.env).names.lookup y ≠ some .local:=fun e=>by
   have hy':(relabel scope X.env).names.lookup y=some .cell\/(relabel scope X.env).names.lookup y=some .free:=hy;rw [e] at hy'
   rcases hy' with q | q <;> cases q
  exact b9a X.env scope.names [] (.inl (S.sees hne hv).1)
 cab:=fun _ _ z=>nomatch z
 hd:=I.ok.hd
 frames:=I.ok.frames
 stk:=.inl rfl
 exf:=fun b hb=>⟨fun z=>by
   have h1:=hl b hb;have z':b=C:=z;rw [z'] at h1
   exact Nat.not_le.mpr h1 hC,fun y c e=>(hf b hb).2.2.2.2.1 y c (S.cells I.ok e)⟩
 bs:=I.bs
 bsz:=Nat.le_trans I.ok.bsz I.sz
 noex:=fun b o e hb=>by
  rcases (hf b hb).2.2.2.1 with z | z
  ·exact I.ok.noex b o e z
  ·have h1:=Heap.lt_size e;have h2:=I.ok.bsz;exact absurd (Nat.lt_of_lt_of_le (Nat.lt_of_lt_of_le h1 h2) z) (Nat.lt_irrefl _)
 exfs:=fun b hb z=>by
  rcases List.mem_cons.mp (I.stkSub b z) with q | q
  ·exact (hf b hb).2.1 q
  ·exact (hf b hb).2.2.1 q
 funs:=I.stack
 frf:=I.stkFree
theorem a8r.inv (S:a8r X.env.scope x scope)(hx:x ∉ M)(h0:(".0":Str) ∉ M)(hlen:M.length=X.N.length)(hM:∀ (j:Nat) y,M[j]? = some y->X.N[j]? = some y\/scope.names.lookup y=none)(I:Inv X pins σ H s){C:Addr}(hC:s.heap.objs.size <= C){fp:List Addr}(hf:∀ b ∈ fp,FpOk X pins H b)(hl:∀ b ∈ fp,b < s.heap.objs.size){h1:Heap}{t1:Nat}
  (old:∀ b o,s.heap.get? b=some o->h1.get? b=some o) {m:Str->Option Value} (ns:h1.Ns C m):Inv (X.comp M scope x C s H fp) [] (none :: σ) H { s with heap:=h1,toks:=t1 } where
 ok:=S.ok I hC hf hl
 os:=rfl
 bare:=I.bare
 base:=Un.kept old
 loc:=by
  refine ⟨m,ns,fun i y v e1 e2 hv=>?_⟩
  cases i with
  | zero=>cases e2
  | succ j=>
   have e1':M[j]? = some y:=by simpa [Cx.comp] using e1
   have e2':σ[j]? = some (some v):=by simpa using e2
   by_cases hy:(relabel scope X.env).names.lookup y=some .local
   ·exfalso;rw [a4j] at hy
    cases e:scope.names.lookup y with
    | none=>rw [e] at hy; cases hy
    | some k=>
     rw [e,Option.map_some] at hy
     have hk:k=.local:=by
      have hy':=Option.some.inj hy;unfold rlb at hy'
      split at hy'
      ·cases hy'
      ·exact hy'
     rcases S.loc _ (mem_of_lookup e) hk with z | z
     ·have z':y=x:=z;subst z'; exact hx (List.mem_of_getElem? e1')
     ·have z':y=(".0":Str):=z;subst z'; exact h0 (List.mem_of_getElem? e1')
   ·obtain ⟨hm,hk⟩:=S.sees hy hv;obtain ⟨m0,_,hl0⟩:=I.loc;have hx0:Vis X.env.scope y:=.inr (S.free _ hm rfl)
    have e1':X.N[j]? = some y:=by
     rcases hM j y e1' with z | z
     ·exact z
     ·exfalso;unfold Vis at hv;have hv':(relabel scope X.env).names.lookup y=some .local\/(relabel scope X.env).names.lookup y=some .cell\/(relabel scope X.env).names.lookup y=some .free:=hv;rw [a4j,z] at hv'
      rcases hv' with q | q | q <;> cases q
    obtain ⟨u,r,l⟩:=hl0 j y v e1' e2' hx0;refine ⟨u,r,.inr ⟨hk,?_⟩⟩;obtain ⟨c,hc⟩:=b9a X.env scope.names [] (.inl hm);refine ⟨c,hc,?_⟩;have hc0:=S.cells I.ok hc
    rcases l with ⟨k0,_⟩ | ⟨_,c0,e0,q0⟩
    ·rcases S.free _ hm rfl with z | z
     ·have k0':X.env.scope.names.lookup y=some .local:=k0;rw [z] at k0'; cases k0'
     ·have k0':X.env.scope.names.lookup y=some .local:=k0;rw [z] at k0'; cases k0'
    ·rw [hc0] at e0; cases e0;obtain ⟨o,ho,hd⟩:=q0;exact ⟨o,old _ _ ho,hd⟩
 cell:=fun y c e=>by
  obtain ⟨v,o,ho,hd⟩:=I.cell y c (S.cells I.ok e);exact ⟨v,o,old _ _ ho,hd⟩
 free:=I.hok.fresh hC
 freeC:=fun y c e=>I.freeC y c (S.cells I.ok e)
 pin:=fun p hp=>by cases hp
 hok:=I.hok.kept old
 len:=by simp [Cx.comp,I.len,hlen]
end
def PIfs (X:Cx)(ifs:List Expr)(t:TT):Prop:=
 ∀ (pins:List (Addr × Obj)) (s:Shared) (σ:St) (H:Hp) (Q:Bool->Hp->Prop),Inv X pins σ H s->t σ H Q->
  wpAny (model X.prog X.w) X.A (forIn ifs true fun c r=>if r=true then do let ok <- isTrue c X.env (eval c X.env); pure (ForInStep.yield ok) else pure (ForInStep.yield r)) (TP X pins σ Q) X.xe s
def tYes:TT:=fun _ H Q=>Q true H
theorem a7j :PIfs X [] tYes:=fun _ _ _ H _ I h=>wpAny_tests_nil ⟨H,I,h⟩
theorem d0u {c:Expr}{t:TT}(h:PT X c t):PIfs X [c] t:=fun pins s σ H Q I q=>wpAny_tests_one (h pins s σ H Q I q)
theorem c5p {prog:Program}{w:World}{A:Around}{R:Result->Shared->Prop}{elt target iter:Expr}{ifs:List Expr}{scope:Scope}{pos:Pos}{it acc:Value}(I:Nat->Shared->Prop)
  (c0v:∀ n s,I n s->wpAny (model prog w) A (pyNext it) (fun r s₁=>match r with
   | none=>R (.ok .next) s₁
   | some v=>wpAny (model prog w) A (letOwnedTupleGo target it v) (fun _ s₀=>wpAny (model prog w) A (assign target env v) (fun _ s₂=>
     wpAny (model prog w) A (forIn ifs true fun c r=>if r=true then do let ok <- isTrue c env (eval c env); pure (ForInStep.yield ok) else pure (ForInStep.yield r)) (fun ok s₃=>
      if ok=true then wpAny (model prog w) A (eval elt env) (fun x s₄=>
       wpAny (model prog w) A (call (.builtin "list.append") [acc,x]) (fun _ s₅=>∃ m,m < n/\I m s₅) (fun _ _=>False) s₄) (fun _ _=>False) s₃
      else ∃ m,m < n/\I m s₃) (fun _ _=>False) s₂) (fun _ _=>False) s₀) (fun _ _=>False) s₁) (fun _ _=>False) s)
  (n:Nat) (h:I n s):codeAny (model prog w) A (.compLoop (.ListComp elt [⟨target,iter,ifs,0⟩] scope pos) 0 it acc env) R s:=by
 refine codeAny_loop rfl I (fun n s hI=>?_) n h;show wpAny _ A ((compTurn (.ListComp elt [⟨target,iter,ifs,0⟩] scope pos) 0 it acc env).onRaise (fun x=>do noteFrame x env; theTreesLotGoes x)) _ _ s;refine wpAny_noted ?_;rw [compTurn_list];refine wpAny_bind (wpAny_standAt (wpAny_bind (wpAny_mono (c0v n s hI) (fun r s₁ h₁=>?_) fun _ _ h'=>h'.elim)))
 cases r with
 | none=>exact wpAny_pure h₁
 | some v=>
  refine wpAny_bind (wpAny_mono h₁ (fun _ s₀ h₀=>?_) fun _ _ h'=>h'.elim);refine wpAny_bind (wpAny_mono h₀ (fun _ s₂ h₂=>wpAny_bind (wpAny_mono h₂ (fun ok s₃ h₃=>?_) fun _ _ h'=>h'.elim)) fun _ _ h'=>h'.elim)
  cases ok with
  | false=>exact wpAny_pure ⟨rfl,h₃⟩
  | true=>
   exact wpAny_bind (wpAny_bind (wpAny_mono h₃ (fun x s₄ h₄=>wpAny_bind (wpAny_mono h₄ (fun _ s₅ h₅=>wpAny_pure (wpAny_pure ⟨rfl,h₅⟩)) fun _ _ h'=>h'.elim)) fun _ _ h'=>h'.elim))
def tComp (wi:TI)(tt:TT)(te:TE):TE:=fun σ H Q=>wi σ H fun J H1=>∃ W:Nat->Nat->List V->Hp->Prop,(∃ m,W 0 m [] H1)/\∀ i m ys H,W i m ys H->
 (J.stop i H/\∀ p,H p=none->Q (.ref p) (upd H p (.lst ys)))\/
 (J.go i H/\ys.length < sizeLine/\∃ N:List V->Hp->Prop,(∀ ys' H',N ys' H'->∃ m',m' < m/\W (i + 1) m' ys' H')/\
  ∀ x H',J.yld i H x H'->tt (some x :: σ) H' fun b H2=>if b=true then te (some x :: σ) H2 fun y H3=>N (ys ++ [y]) H3 else N ys H2)
section
variable {X:Cx}{M:List Str}{scope:Scope}{x:Str}{px pos:Pos}{elt iter:Expr}{ifs:List Expr}{wi:TI}{tt:TT}{te:TE}
theorem comp_core {use:Option (Value->Sem Unit)}{QQ:Value->Shared->Prop}{pins:List (Addr × Obj)}{cpos:Pos}(hsc:X.env.scope=sc)(S:a8r sc x scope)(hx:x ∉ M)(h0:(".0":Str) ∉ M)(hN:M.Nodup)(hlen:M.length=X.N.length)(hM:∀ (j:Nat) y,M[j]? = some y->X.N[j]? = some y\/scope.names.lookup y=none)(hc:X.calm=true)(hi:PI X (.Name x px) iter wi)
  (ht:∀ C s H ex,PIfs (X.comp M scope x C s H ex) ifs tt) (he:∀ C s H ex,PE (X.comp M scope x C s H ex) elt te) (I:Inv X pins σ H s) (h:tComp wi tt te σ H Q)
  (fin:∀ (D C:Addr) (s4:Shared) (H4:Hp),C ≠ X.env.locals->(∀ y c,X.env.cells.lookup y=some c->c ≠ C)->(∀ p ∈ X.pn ++ pins,p.1 ≠ C)->X.s₀.heap.objs.size <= C->H4 C=none->(∃ m,s4.heap.Ns C m)->
   (∀ h',Heap.SameBut C s4.heap h'->Inv X pins σ H4 { s4 with heap:=h' })->Q (.ref D) H4->compPost (model X.prog X.w) X.A X.xe use QQ (.ref D) C (.ok .next) s4)
  (hs:∀ v,foldedSetIterable iter X.env v=pure v) :
  wpAny (model X.prog X.w) X.A (comprehension (.ListComp elt [⟨.Name x px,iter,ifs,0⟩] scope pos) scope X.env cpos (newList []) false (eval iter X.env) use) QQ X.xe s:=by
 subst hsc;have hnames:=S.nam;refine wpAny_comprehension_free (use:=use) rfl hs (d5h (S.has I.ok)) S.kind hnames (thn (hi pins s σ H _ I h) fun v s1 h1=>thn h1 fun itv s2 h2=>?_);obtain ⟨it,fp,tn,J,H2,e,I2,T,st2,f2,W,⟨m0,w0⟩,c0v⟩:=h2;subst e;refine wpAny_newObj_type (wpAny_newFunctionEnv S.cell (by intro y hy; simp at hy) (fun h₁ hns₁ hsb₁=>?_) S.kind);dsimp only at hns₁ hsb₁ ⊢;generalize hG:s2.heap.push { cls:=.type "list",dict:=none,data:=.seq ([]:List Value).toArray } = G at hns₁ hsb₁ ⊢;have hC:G.objs.size=s2.heap.objs.size + 1:=by rw [<- hG,Heap.size_push]
 have hDC:s2.heap.objs.size ≠ G.objs.size:=by omega
 have below:∀ b,b < s2.heap.objs.size->b ≠ G.objs.size/\b ≠ s2.heap.objs.size:=fun b hb=>⟨by omega,by omega⟩;have old:∀ b o,s2.heap.get? b=some o->h₁.get? b=some o:=fun b o e=>hsb₁.extBut b o (below b (Heap.lt_size e)).1 (Heap.get?_push_of_some _ (hG ▸ Heap.get?_push_of_some _ e));have hacc:h₁.get? s2.heap.objs.size=some { cls:=.type "list",data:=.seq ([]:List Value).toArray }:=hsb₁.extBut _ _ hDC (Heap.get?_push_of_some _ (hG ▸ Heap.get?_push_size _ rfl))
 have hlt:∀ b ∈ fp,b < s2.heap.objs.size:=fun b hb=>by
  obtain ⟨o,e,_⟩:=T.obj _ _ st2 b hb;exact Heap.lt_size e
 have ctop:∀ y c,(d9n X.env scope.names []).lookup y=some c->c < s2.heap.objs.size:=fun y c e=>by
  obtain ⟨v,q⟩:=I2.cell y c (S.cells I2.ok e);exact q.lt
 have hCle:s2.heap.objs.size <= G.objs.size:=by omega
 have IY:∀ t1,Inv (X.comp M scope x G.objs.size s2 H2 fp) [] (none :: σ) H2 { s2 with heap:=h₁,toks:=t1 }:=fun t1=>S.inv hx h0 hlen hM I2 hCle f2 hlt old hns₁
 have nost:∀ b,s2.heap.objs.size <= b->b ∉ frs X.stack:=fun b hb z=>by
  rcases List.mem_cons.mp (I2.stkSub b z) with q | q
  ·exact Nat.not_le.mpr I2.lt (q ▸ hb)
  ·exact I2.nofs hb q
 have hD:s2.heap.objs.size ∉ frs X.stack:=nost _ (Nat.le_refl _)
 have ptop:∀ {pl:List (Addr × Obj)} {H':Hp},(∀ b ∈ fp,H' b=none)->(∀ p ∈ pl,p.1 ∉ fp)->∀ b ∈ fp,FpOk (X.comp M scope x G.objs.size s2 H2 fp) pl H' b:=fun {pl H'} hn hp b hb=>
  ⟨hn b hb,fun z=>(below b (hlt b hb)).1 z,fun z=>(S.ok I2 hCle f2 hlt).exfs b hb z,.inl hb,fun y c e=>(f2 b hb).2.2.2.2.1 y c (S.cells I2.ok e),fun p hp' z=>hp p hp' (z ▸ hb)⟩
 have Dfp:s2.heap.objs.size ∉ fp:=fun z=>Nat.lt_irrefl _ (hlt _ z)
 have loop:∀ t1,codeAny (model X.prog X.w) X.A (.compLoop (.ListComp elt [⟨.Name x px,iter,ifs,0⟩] scope pos) 0 (.ref it) (.ref s2.heap.objs.size) (compEnvC scope (d9n X.env scope.names []) G.objs.size X.env))
   (compPost (model X.prog X.w) X.A X.xe use QQ (.ref s2.heap.objs.size) G.objs.size) { s2 with heap:=h₁,toks:=t1 }:=by
  intro t1
  refine c5p (fun n s'=>∃ i o H' ys its k,Inv (X.comp M scope x G.objs.size s2 H2 fp) [(s2.heap.objs.size,{ cls:=.type "list",data:=.seq its k })] (o :: σ) H' s'/\tn i s'.heap/\(∀ b ∈ fp,H' b=none)/\a6q ys its.toList/\ys.length <= sizeLine/\W i n ys H')
   ?_ m0 ⟨0,none,H2,[],#[],0,?_,T.keep _ _ _ st2 fun b _ o e=>old b o e,fun b hb=>(f2 b hb).1,.nil,Nat.zero_le _,w0⟩
  ·rintro n s3 ⟨i,o,H3,ys,its,k,I3,st3,fr3,vs3,z3,w3⟩
   have pD:∀ p ∈ [(s2.heap.objs.size,({ cls:=.type "list",data:=.seq its k }:Obj))],p.1 ∉ fp:=fun p hp=>by
    have e:p=_:=List.mem_singleton.mp hp;subst e; exact Dfp
   rcases c0v i n ys H3 w3 with ⟨stop,qn⟩ | ⟨go,hz,N,hN',step⟩
   ·refine wpAny_mono (T.done (X.comp M scope x G.objs.size s2 H2 fp) rfl rfl rfl hc i _ s3 (o :: σ) H3 (fun _ _=>False) I3 (ptop fr3 pD) st3 stop) (fun r s4 ⟨hr,I4⟩=>?_) fun _ _ f=>f;subst hr;obtain ⟨m4,hn4,_⟩:=I4.loc;obtain ⟨eD,nD,_⟩:=I4.pin _ (List.mem_singleton.mpr rfl);have nC:H3 G.objs.size=none:=I4.free;refine fin s2.heap.objs.size G.objs.size s4 (upd H3 s2.heap.objs.size (.lst ys)) (fun z=>Nat.not_le.mpr I2.lt (z ▸ hCle)) (fun y c e z=>?_) (fun p hp z=>?_) (Nat.le_trans I2.sz hCle) (by rw [a0q (Ne.symm hDC)]; exact nC) ⟨m4,hn4⟩ (fun h' hs'=>?_) (qn _ nD)
    ·obtain ⟨v,q⟩:=I2.cell y c e;exact Nat.not_le.mpr q.lt (z ▸ hCle)
    ·exact Nat.not_le.mpr (Heap.lt_size (I2.pin p hp).1) (z ▸ hCle)
    have eD':h'.get? s2.heap.objs.size=some { cls:=.type "list",data:=.seq its k }:=hs'.extBut _ _ hDC eD;have stp:∀ b o,s2.heap.get? b=some o->b ≠ G.objs.size/\b ≠ s2.heap.objs.size:=fun b o e=>below b (Heap.lt_size e)
    have un:Un (frs X.stack) fp H2 (upd H3 s2.heap.objs.size (.lst ys)) s2.heap h':=by
     have B:=I4.base;refine ⟨fun b o e n1 n2 n3=>hs'.extBut _ _ (stp b o e).1 (B.keep b o e n1 n2 n3),fun b o e n1 n2 n3=>?_,fun b o e n1 n3=>?_,fun b o e n3=>?_,fun b xs e=>?_,fun b o u e=>?_,fun b ps e=>?_⟩
     ·obtain ⟨sl,q⟩:=B.slot b o e n1 n2 n3;exact ⟨sl,hs'.extBut _ _ (stp b o e).1 q⟩
     ·rw [a0q (stp b o e).2]; exact B.free b o e n1 n3
     ·obtain ⟨o',q⟩:=B.there b o e n3;exact ⟨o',hs'.extBut _ _ (stp b o e).1 q⟩
     ·have q:=B.tups b xs e;rw [a0q (a0n q nD)]; exact q
     ·have q:=B.frzs b o u e;rw [a0q (a0n q nD)]; exact q
     ·obtain ⟨more,q⟩:=B.tbls b ps e;exact ⟨more,by rw [a0q (a0n q nD)]; exact q⟩
    have hok:HOk X.prog X.w (upd H3 s2.heap.objs.size (.lst ys)) h':=fun b u e=>by
     by_cases hb:b=s2.heap.objs.size
     ·subst hb;rw [a0c] at e;cases e;exact ⟨z3,its.toList,k,vs3,by simpa using eD'⟩
     ·rw [a0q hb] at e;refine (I4.hok b u e).stay (fun c v hc' q=>hs'.extBut _ _ (fun z=>?_) q) (fun c q=>by rw [a0q (a0n q nD)]; exact q) fun c xs q=>by rw [a0q (a0n q nD)]; exact q
      rcases hc' with r | r
      ·rw [r] at z; rw [z,nC] at e; cases e
      ·rw [z,nC] at r; cases r
    refine I2.call' (s':={ s4 with heap:=h' }) I4.os un hok I4.bare (fun b hb=>?_);obtain ⟨f0,f1,f2',f3,f4,f5⟩:=f2 b hb;exact ⟨f3,f1,f4,f5⟩
   ·refine wpAny_mono (T.item (X.comp M scope x G.objs.size s2 H2 fp) rfl rfl rfl hc i _ s3 (o :: σ) H3 (fun _ _=>False) I3 (ptop fr3 pD) st3 go) (fun r s4 ⟨u,hr,h4⟩=>?_) fun _ _ f=>f;subst hr;refine wpAny_mono h4 (fun _ s5 ⟨v5,H5,I5,r5,y5,st5,fr5⟩=>?_) fun _ _ f=>f;have I5':=I5.pinned (ptop fr5 pD) (T.obj _ _ st5);have hnd:(X.comp M scope x G.objs.size s2 H2 fp).N.Nodup:=List.nodup_cons.mpr ⟨hx,hN⟩;have hloc:(relabel scope X.env).names.lookup x=some .local:=lookup_relabel_local S.own;refine wpAny_mono (a2r (X:=X.comp M scope x G.objs.size s2 H2 fp) (i:=0) (pos:=px) hnd rfl (.inl hloc) (.inr hloc) _ s5 (o :: σ) H5 v5 u (fun σ6 H6=>σ6=some v5 :: σ/\H6=H5) I5' r5 ⟨rfl,rfl⟩) (fun _ s6 ⟨σ6,H6,I6,e6,e6'⟩=>?_) fun _ _ f=>f;subst e6 e6'
    have later:∀ {σ7:St} {H7:Hp} {s7:Shared},Inv (X.comp M scope x G.objs.size s2 H2 fp) ([(s2.heap.objs.size,{ cls:=.type "list",data:=.seq its k })] ++ d5m fp s5.heap) σ7 H7 s7->tn (i + 1) s7.heap/\(∀ b ∈ fp,H7 b=none):=fun {σ7 H7 s7} I7=>
     ⟨T.keep _ _ _ st5 fun b hb o e=>(I7.pin (b,o) (List.mem_append_right _ (List.mem_append_right _ (b1d hb e)))).1,fun b hb=>by
      obtain ⟨o,e,d⟩:=T.obj _ _ st5 b hb
      exact (I7.pin (b,o) (List.mem_append_right _ (List.mem_append_right _ (b1d hb e)))).2.1⟩
    refine wpAny_mono (ht _ _ _ _ _ s6 (some v5 :: σ) H6 _ I6 (step v5 H6 y5)) (fun ok s7 ⟨H7,I7,q7⟩=>?_) fun _ _ f=>f
    cases ok with
    | false=>
     obtain ⟨m',hm,w7⟩:=hN' _ _ q7;exact ⟨m',hm,i + 1,some v5,H7,ys,its,k,I7.unpinned,(later I7).1,(later I7).2,vs3,z3,w7⟩
    | true=>
     refine wpAny_mono (he _ _ _ _ _ s7 (some v5 :: σ) H7 _ I7 q7) (fun uy s8 ⟨y8,H8,I8,r8,q8⟩=>?_) fun _ _ f=>f;obtain ⟨m',hm,w8⟩:=hN' _ _ q8;obtain ⟨eD,nD,_⟩:=I8.pin (s2.heap.objs.size,{ cls:=.type "list",data:=.seq its k }) (List.mem_append_right _ (List.mem_append_left _ (List.mem_singleton.mpr rfl)))
     have hsz:its.size <= sizeLine:=by
      have:=vs3.length;have e2:its.toList.length=its.size:=by simp
      omega
     refine wpAny_list_append_plain (hsz:=hsz) ⟨k,eD⟩ fun h9 pl9 sb9=>?_;obtain ⟨k9,e9⟩:=pl9;obtain ⟨st8,fr8⟩:=later I8;have I8':Inv (X.comp M scope x G.objs.size s2 H2 fp) [] (some v5 :: σ) H8 s8:=I8.pins_of fun p hp=>nomatch hp
     have I9:Inv (X.comp M scope x G.objs.size s2 H2 fp) [] (some v5 :: σ) H8 { s8 with heap:=h9 }:=
      I8'.turned (t':=s8.toks) (fun b o hb e=>sb9.extBut b o hb e) nD hDC (.inr (Nat.le_refl _)) (fun y c e z=>by have:=ctop y c e; rw [z] at this; exact Nat.lt_irrefl _ this) fun p hp=>nomatch hp
     refine ⟨m',hm,i + 1,some v5,H8,ys ++ [y8],its.push uy,k9,I9.pins_of fun p hp=>?_,T.keep _ _ _ st8 fun b hb o e=>sb9.extBut b o (fun z=>Dfp (z ▸ hb)) e,fr8,?_,?_,w8⟩
     ·have e:p=_:=List.mem_singleton.mp hp;subst e;exact ⟨e9,nD,hDC,hD,fun v z=>by cases z⟩
     ·rw [Array.toList_push];exact vs3.append (.cons r8 .nil)
     ·rw [List.length_append,List.length_singleton]; omega
  ·refine (IY t1).pins_of fun p hp=>?_;have e:p=_:=List.mem_singleton.mp hp;subst e;exact ⟨hacc,I2.hok.fresh (Nat.le_refl _),hDC,hD,fun v z=>by cases z⟩
 exact codeAny_compStart_list (loop _) (T.self _ 0 _ _ _ (T.keep _ _ _ st2 fun b _ o e=>old b o e) (loop _))
theorem a7d (hsc:X.env.scope=sc)(S:a8r sc x scope)(hx:x ∉ X.N)(h0:(".0":Str) ∉ X.N)(hN:X.N.Nodup)(hc:X.calm=true)(hi:PI X (.Name x px) iter wi)
  (ht:∀ C s H ex,PIfs (X.comp X.N scope x C s H ex) ifs tt) (he:∀ C s H ex,PE (X.comp X.N scope x C s H ex) elt te) (hs:∀ v,foldedSetIterable iter X.env v=pure v:=by intro _; rfl) :
  PE X (.ListComp elt [⟨.Name x px,iter,ifs,0⟩] scope pos) (tComp wi tt te):=by
 intro pins s σ H Q I h;rw [eval_ListComp];exact comp_core (use:=none) (M:=X.N) hsc S hx h0 hN rfl (fun _ _ e=>.inl e) hc hi ht he I h (fun D C s4 H4 _ _ _ _ _ hn inv q=>let ⟨m,hn⟩:=hn; ⟨m,hn,fun h' hs'=>⟨.ref D,H4,inv h' hs',rfl,q⟩⟩) hs
theorem d7m {i:Nat}{py spos:Pos}(hi':X.N[i]? = some y)(hy:Loc X.env.scope y)(hsc:X.env.scope=sc)(S:a8r sc x scope)(hx:x ∉ X.N)(h0:(".0":Str) ∉ X.N)(hN:X.N.Nodup)(hc:X.calm=true)(hi:PI X (.Name x px) iter wi)
  (ht:∀ C s H ex,PIfs (X.comp X.N scope x C s H ex) ifs tt) (he:∀ C s H ex,PE (X.comp X.N scope x C s H ex) elt te) (hs:∀ v,foldedSetIterable iter X.env v=pure v:=by intro _; rfl)
  (hsw:swapsWith (.ListComp elt [⟨.Name x px,iter,ifs,0⟩] scope pos) (some (.Name y py)) spos.line X.env=pure true:=by rfl)
  (hf:X.fn y=true\/X.env.scope.names.lookup y=some .local:=by first | exact .inl rfl | exact .inr rfl | assumption) :
  PS X (.Assign [.Name y py] (.ListComp elt [⟨.Name x px,iter,ifs,0⟩] scope pos) spos) (tAsg (tComp wi tt te) (gName i)):=by
 intro pins s σ H D I h;rw [exec_Assign_Name_used _ _ _ _ hsw];refine wpAny_bind (wpAny_standAt (wpAny_bind ?_));show wpAny _ X.A (do let _ <- comprehension (.ListComp elt [⟨.Name x px,iter,ifs,0⟩] scope pos) scope X.env _ (newList []) false (eval iter X.env) (some (assign (.Name y py) X.env))) _ _ s;refine wpAny_bind (wpAny_mono (comp_core (use:=some (assign (.Name y py) X.env)) (QQ:=fun _ s'=>SP X pins D .next s') (M:=X.N) hsc S hx h0 hN rfl (fun _ _ e=>.inl e) hc hi ht he I h (fun D' C s4 H4 c1 c2 c3 c4 c5 hn inv q=>?_) hs) (fun _ s' hq=>wpAny_pure (wpAny_pure hq)) fun _ _ e=>e);obtain ⟨m,hn⟩:=hn;show wpAny _ X.A (assign (.Name y py) X.env (.ref D')) _ _ s4;refine wpAny_assign_Name (store_ok2 (v:=.ref D') (inv s4.heap (.refl ..)) hN hi' hy rfl (fun s5 I5 ⟨a,sb,ha⟩=>?_) hf)
 have hCa:C ≠ a:=by
  rcases ha with r | r
  ·rw [r]; exact c1
  ·exact fun z=>c2 _ _ r z.symm
 exact ⟨m,hn.sameBut sb hCa,fun h' hs'=>⟨_,H4,I5.turned (t':=s5.toks) (fun b o hb e=>hs'.extBut b o hb e) c5 c1 (.inr c4) c2 c3,q⟩⟩
end
theorem comp_range {n:Nat}(Pv:Nat->List V->Hp->Prop)(hn:n <= 1000)(h0:Pv 0 [] H)(hl:∀ i ys H,Pv i ys H->ys.length <= i)
  (hs:∀ i ys H,i < n->Pv i ys H->tt (some (.int (i:Int)) :: σ) H fun b H2=>if b=true then te (some (.int (i:Int)) :: σ) H2 fun y H3=>Pv (i + 1) (ys ++ [y]) H3 else Pv (i + 1) ys H2)
  (hd:∀ ys H,Pv n ys H->∀ p,H p=none->Q (.ref p) (upd H p (.lst ys))) :
  ∃ W:Nat->Nat->List V->Hp->Prop,(∃ m,W 0 m [] H)/\∀ i m ys H,W i m ys H->((Itr 0 n).stop i H/\∀ p,H p=none->Q (.ref p) (upd H p (.lst ys)))\/
   ((Itr 0 n).go i H/\ys.length < sizeLine/\∃ N:List V->Hp->Prop,(∀ ys' H',N ys' H'->∃ m',m' < m/\W (i + 1) m' ys' H')/\
    ∀ x H',(Itr 0 n).yld i H x H'->tt (some x :: σ) H' fun b H2=>if b=true then te (some x :: σ) H2 fun y H3=>N (ys ++ [y]) H3 else N ys H2):=by
 refine ⟨fun i m ys H=>m=n - i/\i <= n/\Pv i ys H,⟨n,by simp,Nat.zero_le _,h0⟩,?_⟩;rintro i m ys H ⟨rfl,hi,p⟩
 by_cases hlt:i < n
 ·refine .inr ⟨hlt,a6d (by have:=hl i ys H p; omega),Pv (i + 1),fun ys' H' p'=>⟨n - (i + 1),by omega,rfl,hlt,p'⟩,fun x H' y=>?_⟩;obtain ⟨e,y⟩:=y;subst e y;rw [Int.zero_add];exact hs i ys _ hlt p
 ·have e:i=n:=by omega
  subst e;exact .inl ⟨Nat.le_refl _,hd ys H p⟩
theorem c2h {ta:TE}{n:Nat}(hn:n <= 1000)(e:∀ P:V->Hp->Prop,P (.int (n:Int)) H->ta σ H P)(Pv:Nat->List V->Hp->Prop)(h0:Pv 0 [] H)(hl:∀ i ys H,Pv i ys H->ys.length <= i)
  (hs:∀ i ys H,i < n->Pv i ys H->tt (some (.int (i:Int)) :: σ) H fun b H2=>if b=true then te (some (.int (i:Int)) :: σ) H2 fun y H3=>Pv (i + 1) (ys ++ [y]) H3 else Pv (i + 1) ys H2)
  (hd:∀ ys H,Pv n ys H->∀ p,H p=none->Q (.ref p) (upd H p (.lst ys))):tComp (iRng1 (b9v ta tNil)) tt te σ H Q:=
 e _ ⟨(n:Int),rfl,by omega,by omega,comp_range Pv hn h0 hl hs hd⟩
theorem comp_tup {K:PySem.W.Frag}{a:Addr}{xs:List V}(Pv:Nat->List V->Hp->Prop)(hn:xs.length <= 1000)(h0:Pv 0 [] H)(hl:∀ i ys H,Pv i ys H->ys.length <= i)(hk:∀ i ys H,Pv i ys H->SqT K H a xs)
  (hs:∀ i x ys H,xs[i]? = some x->Pv i ys H->tt (some x :: σ) H fun b H2=>if b=true then te (some x :: σ) H2 fun y H3=>Pv (i + 1) (ys ++ [y]) H3 else Pv (i + 1) ys H2)
  (hd:∀ ys H,Pv xs.length ys H->∀ p,H p=none->Q (.ref p) (upd H p (.lst ys))) :
  ∃ W:Nat->Nat->List V->Hp->Prop,(∃ m,W 0 m [] H)/\∀ i m ys H,W i m ys H->((Itt K a).stop i H/\∀ p,H p=none->Q (.ref p) (upd H p (.lst ys)))\/
   ((Itt K a).go i H/\ys.length < sizeLine/\∃ N:List V->Hp->Prop,(∀ ys' H',N ys' H'->∃ m',m' < m/\W (i + 1) m' ys' H')/\
    ∀ x H',(Itt K a).yld i H x H'->tt (some x :: σ) H' fun b H2=>if b=true then te (some x :: σ) H2 fun y H3=>N (ys ++ [y]) H3 else N ys H2):=by
 refine ⟨fun i m ys H=>m=xs.length - i/\i <= xs.length/\Pv i ys H,⟨xs.length,by simp,Nat.zero_le _,h0⟩,?_⟩;rintro i m ys H ⟨rfl,hi,p⟩
 by_cases hlt:i < xs.length
 ·refine .inr ⟨⟨xs,xs[i],hk i ys H p,by simp [hlt]⟩,a6d (by have:=hl i ys H p; omega),Pv (i + 1),fun ys' H' p'=>⟨xs.length - (i + 1),by omega,rfl,hlt,p'⟩,fun x H' y=>?_⟩;obtain ⟨e,y⟩:=y;subst e;exact hs i x ys _ (y xs (hk i ys _ p)) p
 ·have e:i=xs.length:=by omega
  subst e;exact .inl ⟨⟨xs,hk _ ys H p,Nat.le_refl _⟩,hd ys H p⟩
def rBitLen:V->List V->Hp->VK->Prop:=fun x vs H Q=>∃ i,x=.int i/\vs=[]/\Q (.int (Builtin.Int.intBits i:Nat)) H
theorem c2r :MtR X "int.bit_length" rBitLen:=by
 intro pins s σ H x xs v us Q I rx rs h;obtain ⟨i,rfl,rfl,q⟩:=h;obtain ⟨t,rfl⟩:=rx;cases rs;exact call_int_bit_length ⟨.int _,H,I.tok _,⟨_,rfl⟩,q⟩
end L2
namespace Tw
def plc (n:Nat):Nat->List Nat
 | 0=>[]
 | k + 1=>if n.testBit k then plc n k ++ [k] else plc n k
theorem d6z (n:Nat):∀ k,(plc n k).length=cnt n.testBit k
 | 0=>rfl
 | k + 1=>by
  rw [plc,cnt];cases h:n.testBit k
  ·simp [d6z n k]
  ·simp [d6z n k]
theorem plc_lt (n:Nat):∀ k,∀ x ∈ plc n k,x < k
 | 0,x,h=>by simp [plc] at h
 | k + 1,x,h=>by
  rw [plc] at h;cases e:n.testBit k
  ·rw [e] at h;have:=plc_lt n k x (by simpa using h);omega
  ·rw [e] at h;have h':x ∈ plc n k\/x=k:=by simpa using h
   rcases h' with z | z
   ·have:=plc_lt n k x z;omega
   ·omega
theorem d6j {α:Type}{xs:List α}{i:Nat}{x:α}(h:xs[i]? = some x):xs.take (i + 1) = xs.take i ++ [x]:=by
 rw [List.take_add_one,h]; rfl
end Tw
namespace L2
open PySem PySem.Spec PyProof.Rows
variable {K:PySem.W.Frag}{tl:TE}
def rLen (K:PySem.W.Frag):List V->Hp->VK->Prop:=fun xs H Q=>(∃ p ys,xs=[.ref p]/\(SqL K H p ys\/SqT K H p ys)/\Q (.int (ys.length:Nat)) H)\/∃ z,xs=[.str z]/\z.length <= sizeLine/\Q (.int (z.length:Nat)) H
theorem a4k {X:Cx}:b2t X (.builtin "len") (rLen X.K):=call_len_seq.or call_len_str
section
variable {K:PySem.W.Frag}{H:Hp}{Q:VK}{D:c4b}{σ:St}{te:TE}{tA:TA}{g:TG}{tb:TS}{v w y:V}{a b l:Addr}{i j:Int}{xs ys zs:List V}{n:Nat}{T:String}{r:V->List V->Hp->VK->Prop}
theorem b1x (e:∀ P:V->Hp->Prop,P (.ref a) H->tl σ H P)(s:SqL K H a xs)(Pv:Nat->St->Hp->Prop)(h0:Pv 0 σ H)(hl:∀ i σ H,i <= xs.length->Pv i σ H->SqL K H a xs)
  (hs:∀ i x σ H,xs[i]? = some x->Pv i σ H->g x σ H fun σ2 H2=>tb { D with nx:=Pv (i + 1),ct:=Pv (i + 1),bk:=D.nx } σ2 H2) (hd:∀ σ H,Pv xs.length σ H->D.nx σ H):tFor (iList K tl) g tb D σ H:=
 e _ ⟨a,rfl,⟨xs,s⟩,for_list Pv h0 hl hs hd⟩
def sForL (K:PySem.W.Frag)(g:TG)(tb:TS)(D:c4b)(σ:St):V->Hp->Prop:=fun x H=>∃ a,x=.ref a/\(∃ xs,SqL K H a xs)/\∃ W:Nat->Nat->St->Hp->Prop,(∃ m,W 0 m σ H)/\∀ i m σ H,W i m σ H->
 ((Itl K a).stop i H/\D.nx σ H)\/((Itl K a).go i H/\∃ N:St->Hp->Prop,(∀ σ' H',N σ' H'->∃ m',m' < m/\W (i + 1) m' σ' H')/\∀ x H',(Itl K a).yld i H x H'->g x σ H' fun σ2 H2=>tb { D with nx:=N,ct:=N,bk:=D.nx } σ2 H2)
theorem st_forE (h:tl σ H (sForL K g tb D σ)):tFor (iList K tl) g tb D σ H:=h
theorem st_forAt (s:SqL K H a xs)(Pv:Nat->St->Hp->Prop)(h0:Pv 0 σ H)(hl:∀ i σ H,i <= xs.length->Pv i σ H->SqL K H a xs)
  (hs:∀ i x σ H,xs[i]? = some x->Pv i σ H->g x σ H fun σ2 H2=>tb { D with nx:=Pv (i + 1),ct:=Pv (i + 1),bk:=D.nx } σ2 H2) (hd:∀ σ H,Pv xs.length σ H->D.nx σ H):sForL K g tb D σ (.ref a) H:=
 ⟨a,rfl,⟨xs,s⟩,for_list Pv h0 hl hs hd⟩
theorem st_cat (h1:H l=some (.lst xs))(h2:H b=some (.lst zs))(hz:xs.length + zs.length <= 1000)(q:∀ p,H p=none->Q (.ref p) (upd H p (.lst (xs ++ zs)))):rCat (.ref l) (.ref b) H Q:=
 ⟨l,b,xs,zs,rfl,rfl,h1,h2,Nat.le_of_lt (a6d hz),q⟩
theorem st_bm0 (h:te σ H fun x H1=>tyV K T x H1/\r x [] H1 Q):tBM0 K T r te σ H Q:=h
theorem st_bm (h:te σ H fun x H1=>tyV K T x H1/\tA σ H1 fun xs H2=>r x xs H2 Q):tBM K T r te tA σ H Q:=h
theorem st_tyI {P:Prop}(h:P):tyV K "int" (.int i) H/\P:=⟨rfl,h⟩
theorem st_tyL {P:Prop}(s:SqL K H a xs)(h:P):tyV K "list" (.ref a) H/\P:=⟨.inl ⟨rfl,xs,s⟩,h⟩
theorem st_bitlen (h:Q (.int (Builtin.Int.intBits i:Nat)) H):rBitLen (.int i) [] H Q:=⟨i,rfl,rfl,h⟩
theorem st_append (h:H l=some (.lst xs))(hz:xs.length <= 1000)(q:Q .non (upd H l (.lst (xs ++ [y])))):rAppend (.ref l) [y] H Q:=⟨l,xs,y,rfl,rfl,h,a6d hz,q⟩
theorem st_lenL (s:SqL K H a xs)(h:Q (.int (xs.length:Nat)) H):rLen K [.ref a] H Q:=.inl ⟨a,xs,rfl,.inl s,h⟩
theorem st_lenT (s:SqT K H a xs)(h:Q (.int (xs.length:Nat)) H):rLen K [.ref a] H Q:=.inl ⟨a,xs,rfl,.inr s,h⟩
end
theorem b6q :PySem.W.kitOne K (.type "NoneType") (.type "int") = some false:=by kernel_rfl
theorem b4s :PySem.W.kitOne K (.type "NoneType") (.type "bool") = some false:=by kernel_rfl
theorem a7y :PySem.W.kitOne K (.type "NoneType") (.type "tuple") = some false:=by kernel_rfl
theorem c6c :PySem.W.kitOne K (.type "bool") (.type "int") = some true:=by kernel_rfl
theorem c2w :PySem.W.kitOne K (.type "bool") (.type "bool") = some true:=by kernel_rfl
theorem d0c :PySem.W.kitOne K (.type "int") (.type "int") = some true:=by kernel_rfl
theorem c5n :PySem.W.kitOne K (.type "int") (.type "bool") = some false:=by kernel_rfl
theorem kit_int_str :PySem.W.kitOne K (.type "int") (.type "str") = some false:=by kernel_rfl
theorem d3a :PySem.W.kitOne K (.type "str") (.type "int") = some false:=by kernel_rfl
theorem c5y :PySem.W.kitOne K (.type "str") (.type "bool") = some false:=by kernel_rfl
theorem kit_str_str :PySem.W.kitOne K (.type "str") (.type "str") = some true:=by kernel_rfl
theorem b3z :PySem.W.kitOne K (.type "list") (.type "tuple") = some false:=by kernel_rfl
theorem c2j :PySem.W.kitOne K (.type "list") (.type "list") = some true:=by kernel_rfl
theorem a1u :PySem.W.kitOne K (.type "tuple") (.type "tuple") = some true:=by kernel_rfl
theorem bits_lt (n:Nat):n < 2 ^ (Builtin.Int.intBits (n:Int)):=by
 unfold Builtin.Int.intBits
 by_cases h:n=0
 ·subst h; decide
 ·have e:((n:Int) == 0) = false:=by
   rw [beq_eq_false_iff_ne]; omega
  rw [e];simp only [Bool.false_eq_true,if_false,Int.natAbs_natCast];exact Nat.lt_log2_self
theorem bits_le {n k:Nat}(h:n < 2 ^ k):Builtin.Int.intBits (n:Int) <= k:=by
 unfold Builtin.Int.intBits
 by_cases hn:n=0
 ·subst hn; simp
 ·have e:((n:Int) == 0) = false:=by
   rw [beq_eq_false_iff_ne]; omega
  rw [e];simp only [Bool.false_eq_true,if_false,Int.natAbs_natCast];exact (Nat.log2_lt hn).mpr h
end L2
namespace Tw
open PySem PySem.Spec PyProof.Rows L2
def Alone (_:Addr)(_:Heap):Prop:=True
def AloneT (_:Addr)(_:Heap):Prop:=True
end Tw
namespace L2
open PySem PySem.Spec PyProof.Rows
variable {C b f:Addr}{A:Around}{u:HO}{base h h':Heap}{H:Hp}{outer:List Env}{N:List Str}{P:Program}{K:PySem.W.Frag}{scope:Scope}{s:Shared}{qual:Str}{cd:Value}{w:World}{E:XK}
abbrev bmVE:List Value:=[.type "ValueError",.type "Exception",.type "BaseException",.type "object"]
structure d8q (K:PySem.W.Frag)(C:Addr):Prop where
 exc:PySem.W.excIn K C bmVE "ValueError.__new__" = true
 ga:PySem.W.findIn K (.ref C) "__getattribute__" = some (some (.builtin "BaseException.__getattribute__"))
 gt:PySem.W.findIn K (.ref C) "__getattr__" = some none
 ca:PySem.W.findIn K (.ref C) "__class__" = some (some (.builtin "object.__class__"))
 cg:PySem.W.specialIn K (.builtin "object.__class__") "__get__" = some (some (.builtin "getset_descriptor.__get__"))
 tk:PySem.W.takesIn K (.builtin "object.__class__") = some true
 mo:PySem.W.mroIn K C (.type "object") = some true
 mb:PySem.W.mroIn K C (.type "BaseException") = some true
structure ExcC (K:PySem.W.Frag)(mg:Str->Option Value)(x:Str)(C:Addr):Prop where
 at_:mg x=some (.ref C)
 k:d8q K C
theorem d8q.obj (c:d8q K C)(X:K.In h):∃ bm N nm q bs hdct sn sub ab col dd k0 k1 k2 k3 k5 mN,h.get? C=some (excClassObj nm q C N bs bm hdct sn sub ab col dd k0 k1 k2 k3 k5 "ValueError.__new__")/\h.Ns N mN/\mN "__init__" = none/\OwnTail h bmVE bm:=by
 have q:=c.exc;unfold PySem.W.excIn at q
 split at q
 ·rename_i dd cd sl ho
  split at q
  ·rename_i C' bm k0 k1 k2 k3 n k5 hm hs;simp only [Bool.and_eq_true,beq_iff_eq,Bool.not_eq_true'] at q;obtain ⟨⟨⟨⟨⟨rfl,rfl⟩,hdel⟩,ht⟩,hok⟩,hni⟩:=q;obtain ⟨nm,bs,mro,ns,qn,hd,sn,sub,ab,col,del⟩:=cd;dsimp only at hm hdel hok hni;subst hm hdel
   have hsl:sl= #[k0,k1,k2,k3,some (.builtin "ValueError.__new__"),k5]:=by
    obtain ⟨l⟩:=sl;simp only at hs;rw [hs]
   subst hsl;exact ⟨bm,ns,nm,qn,bs,hd,sn,sub,ab,col,dd,k0,k1,k2,k3,k5,_,X _ _ ho,.of_isNs (PySem.W.isNs_of_in X hok),PySem.W.nsMap_none_of_in X hok hni,PySem.W.tail_of_in X ht⟩
  ·cases q
 ·cases q
theorem a6c.there (k:a6c P w H h b u):∃ o,h.get? b=some o:=by
 revert k
 cases u with
 | lst xs=>rintro ⟨_,its,n,_,z⟩; exact ⟨_,z⟩
 | tup xs=>rintro ⟨_,its,_,o,z,_⟩; exact ⟨_,z⟩
 | dK kvs=>rintro ⟨_,_,vs,_,o,es,ep,z,_⟩; exact ⟨_,z⟩
 | dT kvs=>rintro ⟨_,_,vs,_,o,es,ep,z,_⟩; exact ⟨_,z⟩
 | set S n=>rintro ⟨o,es,ep,t,z,_⟩; exact ⟨_,z⟩
 | ins C dx fs=>rintro ⟨_,_,_,z,_⟩; exact ⟨_,z⟩
 | own y=>rintro ⟨o,z⟩; exact ⟨_,z⟩
 | xd fs=>rintro ⟨mA,⟨od,es,ep,z,_⟩,_⟩; exact ⟨_,z⟩
 | rng lo hi=>rintro ⟨t,u,v,z⟩; exact ⟨_,z⟩
 | frz ob u=>rintro ⟨z,_⟩; exact ⟨_,z⟩
 | tbl ps=>intro z; exact ⟨_,z⟩
 | met f y=>intro z; exact ⟨_,z⟩
 | ext φ=>rintro ⟨_,⟨o,z⟩,_⟩; exact ⟨_,z⟩
structure d3x (P:Program)(w:World)(outer:List Env)(H:Hp)(s:Shared)(E:XK)(ea:Addr)(cls:Value)(H':Hp)(B:Heap)(s':Shared):Prop where
 os:s'.os=s.os
 bare:AllBare s'.gens
 un:Un (frs outer) [] H H' s.heap s'.heap
 hok:HOk P w H' s'.heap
 fly:∃ a0,Heap.FlyingW B outer ea cls a0 s'.heap
 old:∀ b o,s.heap.get? b=some o->b ∉ frs outer->∃ o',B.get? b=some o'/\(H b=none->o' = o)
 trk:∀ b u o,H' b=some u->s'.heap.get? b=some o->B.get? b=some o
 want:E cls none H'
 al:Tw.AloneT ea s'.heap\/E cls (some 0) H'
def CXE (P:Program)(w:World):CXT:=fun outer H s E e s'=>∃ (ea:Addr) (cls:Value) (H':Hp) (B:Heap),e=.ref ea/\d3x P w outer H s E ea cls H' B s'
section
variable {P:Program}{w:World}{X:Cx}{pins:List (Addr × Obj)}{σ:St}{H H':Hp}{s s':Shared}{E:XK}{ea:Addr}{cls:Value}{B:Heap}{outer:List Env}
theorem d3x.some_of (F:d3x P w outer H s E ea cls H' B s')(e:H' b=some u):∃ o,s'.heap.get? b=some o:=(F.hok b u e).there
theorem d3x.free (F:d3x P w outer H s E ea cls H' B s'):H' ea=none:=by
 cases q:H' ea with
 | none=>rfl
 | some u=>
  obtain ⟨o,e⟩:=F.some_of q;have h1:=F.trk _ _ _ q e;obtain ⟨a0,_,h2,_⟩:=F.fly;rw [h2] at h1; cases h1
theorem d3x.hokTo (F:d3x P w outer H s E ea cls H' B s')(k:B.StaysIn h'):HOk P w H' h':=fun b u e=>by
 refine (F.hok b u e).stay (fun c v hc q=>?_) (fun _ q=>q) fun _ _ q=>q
 rcases hc with r | r
 ·subst r; exact k _ _ (F.trk _ _ _ e q)
 ·exact k _ _ (F.trk _ _ _ r q)
theorem d3x.inv (F:d3x X.prog X.w X.stack H s E ea cls H' B s')(I:Inv X pins σ H s){t':Nat}(k:B.StaysIn h')(up:s'.heap.UpToSlots h'):Inv X pins σ H' { s' with heap:=h',toks:=t' }:=by
 obtain ⟨a0,_,_,fr,_⟩:=F.fly;refine I.call' (s':={ s' with heap:=h',toks:=t' }) (ch:=[]) F.os ⟨fun b o e n hb _=>?_,fun b o e n hb _=>?_,fun b o e n _=>F.un.free b o e n (by simp),fun b o e _=>?_,F.un.tups,F.un.frzs,F.un.tbls⟩ (F.hokTo k) F.bare (fun _ z=>nomatch z)
 ·obtain ⟨o',q,z⟩:=F.old b o e hb;rw [z n] at q;exact k _ _ q
 ·obtain ⟨sl,q⟩:=F.un.slot b o e n hb (by simp);obtain ⟨_,o2,q2,d2⟩:=fr.mem hb;rw [q] at q2; cases q2;obtain ⟨sl',q'⟩:=up b _ q d2;exact ⟨sl',q'⟩
 ·by_cases hb:b ∈ frs X.stack
  ·obtain ⟨_,o2,q2,d2⟩:=fr.mem hb;obtain ⟨sl',q'⟩:=up b _ q2 d2;exact ⟨_,q'⟩
  ·obtain ⟨o',q,_⟩:=F.old b o e hb;exact ⟨o',k _ _ q⟩
end
theorem c3z {mg:Str->Option Value} :
  b4r (CXE P w) (cxOf (CXE P w) P w K mg base N qual scope f cd A outer s H E) E:=by
 intro pins σ H1 s1 e s' I h;obtain ⟨ea,cls,H',B,rfl,F⟩:=h;have F':d3x P w (envOfC qual scope s.heap.objs.size f cd :: outer) H1 s1 E ea cls H' B s':=F;obtain ⟨a0,fl⟩:=F'.fly;have hfr:=I.ok.frames;show wpAny _ _ (leaving _ _) _ _ _
 have on:∀ E1:Value->Shared->Prop,wpAny (model P w) (A.deeper (envOfC qual scope s.heap.objs.size f cd)) (leaving (envOfC qual scope s.heap.objs.size f cd) (.ref ea)) (fun _ s2=>(Tw.AloneT ea s2.heap\/E cls (some 0) H')/\∃ h',s2= { s' with heap:=h' }/\Heap.FlyingW B outer ea cls a0 h'/\s'.heap.UpToSlots h') E1 s':=fun E1=>by
  have one:wpAny (model P w) (A.deeper (envOfC qual scope s.heap.objs.size f cd)) (leaving (envOfC qual scope s.heap.objs.size f cd) (.ref ea)) (fun _ s2=>∃ h',s2= { s' with heap:=h' }/\Heap.FlyingW B outer ea cls a0 h'/\s'.heap.UpToSlots h') E1 s':=wpAny_leaves_onW (outer:=outer) hfr rfl fl fun h' fl' up=>⟨h',rfl,fl',up⟩
  rcases F'.al with ka | ka
  ·exact wpAny_mono one (fun _ _ z=>⟨.inl trivial,z⟩) fun _ _ z=>z
  ·exact wpAny_mono one (fun _ _ z=>⟨.inr ka,z⟩) fun _ _ z=>z
 refine wpAny_mono (on _) (fun _ s2 ⟨ka,h',e2,fl',up⟩=>?_) fun _ _ z=>z;subst e2
 have frs2:∀ b,b ∈ frs (envOfC qual scope s.heap.objs.size f cd :: outer)->b=s.heap.objs.size\/b ∈ frs outer:=fun b hb=>by
  obtain ⟨env,he,hf⟩:=List.mem_filterMap.mp hb
  rcases List.mem_cons.mp he with rfl | he
  ·exact .inl (Option.some.inj hf).symm
  ·exact .inr (List.mem_filterMap.mpr ⟨env,he,hf⟩)
 have notin:∀ b o,s.heap.get? b=some o->b ∉ frs outer->b ∉ frs (envOfC qual scope s.heap.objs.size f cd :: outer):=fun b o e hb z=>by
  rcases frs2 b z with r | r
  ·have:=Heap.lt_size e;rw [r] at this;exact Nat.lt_irrefl _ this
  ·exact hb r
 have base0:Un (frs outer) [] H H1 s.heap s1.heap:=I.base;obtain ⟨_,_,frm,_⟩:=id fl;have frm':s'.heap.FunFrames B outer:=frm.2.2;refine ⟨ea,cls,H',B,rfl,F'.os.trans I.os,F'.bare,⟨fun b o e n hb _=>?_,fun b o e n hb _=>?_,fun b o e n _=>?_,fun b o e _=>?_,fun b xs e=>F'.un.tups b xs (base0.tups b xs e),fun b o u e=>F'.un.frzs b o u (base0.frzs b o u e),fun b ps e=>?_⟩,F'.hokTo fl'.1,⟨a0,fl'⟩,fun b o e hb=>?_,fun b u o e q=>?_,F'.want,ka⟩
 ·obtain ⟨o',q,z⟩:=F'.old b o (base0.keep b o e n hb (by simp)) (notin b o e hb);rw [z (base0.free b o e n (by simp))] at q;exact fl'.1 _ _ q
 ·obtain ⟨sl,q⟩:=base0.slot b o e n hb (by simp);obtain ⟨sl2,q2⟩:=F'.un.any (b:=b) q (base0.free b o e n (by simp)) (by simp);obtain ⟨_,o3,q3,d3⟩:=frm'.mem hb;rw [q2] at q3; cases q3;obtain ⟨sl',q'⟩:=up b _ q2 d3;exact ⟨sl',q'⟩
 ·obtain ⟨o1,q1⟩:=base0.there b o e (by simp);exact F'.un.free b o1 q1 (base0.free b o e n (by simp)) (by simp)
 ·obtain ⟨o1,q1⟩:=base0.there b o e (by simp)
  by_cases hb:b ∈ frs outer
  ·obtain ⟨_,o3,q3,d3⟩:=frm'.mem hb;obtain ⟨sl',q'⟩:=up b _ q3 d3;exact ⟨_,q'⟩
  ·obtain ⟨o',q,_⟩:=F'.old b o1 q1 (notin b o e hb);exact ⟨o',fl'.1 _ _ q⟩
 ·obtain ⟨m1,e1⟩:=base0.tbls b ps e;obtain ⟨m2,e2⟩:=F'.un.tbls b _ e1;exact ⟨m1 ++ m2,by rw [e2,Array.append_assoc]⟩
 ·obtain ⟨o1,q1⟩:=base0.there b o e (by simp);obtain ⟨o',q,z⟩:=F'.old b o1 q1 (notin b o e hb);refine ⟨o',q,fun n=>?_⟩;have q1':=base0.keep b o e n hb (by simp);rw [q1'] at q1; cases q1;exact z (base0.free b o e n (by simp))
 ·obtain ⟨o1,q1⟩:=F'.some_of e;have q2:=F'.trk b u o1 e q1;have q3:=fl'.1 _ _ q2;rw [q3] at q; cases q;exact q2
structure MadeX (h h':Heap)(e:Addr)(cls:Value):Prop where
 keeps:∀ b o,h.get? b=some o->h'.get? b=some o
 new:h.get? e=none
 there:∃ oe vs a0,h'.get? e=some oe/\oe.cls=cls/\oe.data=.fields vs/\vs[0]? = some a0/\vs[1]? = some .none
theorem MadeX.of {e:Addr}{cls:Value}{args:List Value}(x:Heap.MadeExcOf h h' e cls args):MadeX h h' e cls/\Tw.Alone e h':=by
 obtain ⟨t,he,_,_⟩:=x.there;exact ⟨⟨x.keeps,x.new,_,_,_,he,rfl,rfl,rfl,rfl⟩,trivial⟩
def RaisesX (X:Cx)(C:Addr)(E:XK):Prop:=∀ (pins:List (Addr × Obj)) (σ:St) (H:Hp) (s:Shared) (h':Heap) (e:Addr),Inv X pins σ H s->MadeX s.heap h' e (.ref C)->E (.ref C) none H->(Tw.Alone e h'\/E (.ref C) (some 0) H)->X.xe (.ref e) { s with heap:=h' }
def Raises (X:Cx)(C:Addr)(E:XK):Prop:=∀ (pins:List (Addr × Obj)) (σ:St) (H:Hp) (s:Shared) (h':Heap) (e:Addr) (args:List Value),Inv X pins σ H s->Heap.MadeExcOf s.heap h' e (.ref C) args->E (.ref C) none H->X.xe (.ref e) { s with heap:=h' }
theorem raisesX {mg:Str->Option Value} :
  RaisesX (cxOf (CXE P w) P w K mg base N qual scope f cd A outer s H E) C E:=by
 intro pins σ H1 s1 h1 e I hx hE hA;have hfr:=I.ok.frames;have st:=I.stack;show wpAny _ _ (leaving _ _) _ _ _;have hin:∀ env ∈ (envOfC qual scope s.heap.objs.size f cd :: outer),∀ b,env.frame=some b->b ∈ frs (envOfC qual scope s.heap.objs.size f cd :: outer):=fun env he b hb=>List.mem_filterMap.mpr ⟨env,he,hb⟩;have hid:∀ {b o},s1.heap.get? b=some o->b ∉ frs (envOfC qual scope s.heap.objs.size f cd :: outer)->(PySem.W.hideAll s1.heap (frs (envOfC qual scope s.heap.objs.size f cd :: outer))).get? b=some o:=fun q nm=>PySem.W.hideAll_get _ q nm;obtain ⟨oe,vs,a0,he,hcl,hd,h0,h1'⟩:=hx.there;have fr1:h1.FunFrames (PySem.W.hideAll s1.heap (frs (envOfC qual scope s.heap.objs.size f cd :: outer))) (envOfC qual scope s.heap.objs.size f cd :: outer):=(PySem.W.funFrames_hide st hin).of_keeps fun b o hb _=>⟨o,hx.keeps b o hb,rfl⟩;have hkb:(PySem.W.hideAll s1.heap (frs (envOfC qual scope s.heap.objs.size f cd :: outer))).StaysIn h1:=fun b o q=>hx.keeps b o (PySem.W.of_hideAll _ q)
 have hnw:(PySem.W.hideAll s1.heap (frs (envOfC qual scope s.heap.objs.size f cd :: outer))).get? e=none:=by
  cases q:(PySem.W.hideAll s1.heap (frs (envOfC qual scope s.heap.objs.size f cd :: outer))).get? e with
  | none=>rfl
  | some o'=>
   have:=PySem.W.of_hideAll _ q;rw [hx.new] at this;cases this
 have on:∀ E1:Value->Shared->Prop,wpAny (model P w) (A.deeper (envOfC qual scope s.heap.objs.size f cd)) (leaving (envOfC qual scope s.heap.objs.size f cd) (.ref e)) (fun _ s2=>(Tw.AloneT e s2.heap\/E (.ref C) (some 0) H1)/\∃ h',s2= { s1 with heap:=h' }/\Heap.FlyingW (PySem.W.hideAll s1.heap (frs (envOfC qual scope s.heap.objs.size f cd :: outer))) outer e (.ref C) a0 h'/\h1.UpToSlots h') E1 { s1 with heap:=h1 }:=fun E1=>by
  have one:wpAny (model P w) (A.deeper (envOfC qual scope s.heap.objs.size f cd)) (leaving (envOfC qual scope s.heap.objs.size f cd) (.ref e)) (fun _ s2=>∃ h',s2= { s1 with heap:=h' }/\Heap.FlyingW (PySem.W.hideAll s1.heap (frs (envOfC qual scope s.heap.objs.size f cd :: outer))) outer e (.ref C) a0 h'/\h1.UpToSlots h') E1 { s1 with heap:=h1 }:=
   wpAny_leaving_firstW (s:={ s1 with heap:=h1 }) (a0:=a0) hfr fr1 rfl he hkb hnw hd h1' h0 fun h' hL=>by
    obtain ⟨k1,⟨_,_,k2⟩,k3,k4⟩:=hL;rw [hcl] at k3;exact ⟨h',rfl,⟨k1,hnw,k2,k3⟩,k4⟩
  rcases hA with ka | ka
  ·exact wpAny_mono one (fun _ _ z=>⟨.inl trivial,z⟩) fun _ _ z=>z
  ·exact wpAny_mono one (fun _ _ z=>⟨.inr ka,z⟩) fun _ _ z=>z
 refine wpAny_mono (on _) (fun _ s2 ⟨ka,h',e2,fl,up⟩=>?_) fun _ _ z=>z;subst e2;have base0:Un (frs outer) [] H H1 s.heap s1.heap:=I.base
 have notin:∀ b o,s.heap.get? b=some o->b ∉ frs outer->b ∉ frs (envOfC qual scope s.heap.objs.size f cd :: outer):=fun b o e hb z=>by
  obtain ⟨env,he,hf⟩:=List.mem_filterMap.mp z
  rcases List.mem_cons.mp he with rfl | he
  ·have h1:=Heap.lt_size e;have z2:s.heap.objs.size=b:=Option.some.inj hf;rw [<- z2] at h1;exact Nat.lt_irrefl _ h1
  ·exact hb (List.mem_filterMap.mpr ⟨env,he,hf⟩)
 have trkd:∀ b u,H1 b=some u->b ∉ frs (envOfC qual scope s.heap.objs.size f cd :: outer):=fun b u e z=>by
  rw [I.stkFree b z] at e; cases e
 obtain ⟨_,_,frm,_⟩:=id fl;refine ⟨e,.ref C,H1,_,rfl,I.os,I.bare,⟨fun b o e n hb _=>?_,fun b o e n hb _=>?_,fun b o e n _=>base0.free b o e n (by simp),fun b o e _=>?_,base0.tups,base0.frzs,base0.tbls⟩,fun b u e=>?_,⟨_,fl⟩,fun b o e hb=>?_,fun b u o e q=>?_,hE,ka⟩
 ·exact fl.1 _ _ (hid (base0.keep b o e n hb (by simp)) (notin b o e hb))
 ·obtain ⟨sl,q⟩:=base0.slot b o e n hb (by simp);obtain ⟨_,o3,q3,d3⟩:=st.2.2.mem hb;rw [q] at q3; cases q3;obtain ⟨sl',q'⟩:=up b _ (hx.keeps _ _ q) d3;exact ⟨sl',q'⟩
 ·obtain ⟨o1,q1⟩:=base0.there b o e (by simp)
  by_cases hb:b ∈ frs outer
  ·obtain ⟨_,o3,q3,d3⟩:=frm.mem hb;exact ⟨_,q3⟩
  ·exact ⟨o1,fl.1 _ _ (hid q1 (notin b o e hb))⟩
 ·refine (I.hok b u e).stay (fun c v hc q=>?_) (fun _ q=>q) fun _ _ q=>q
  rcases hc with r | r
  ·subst r; exact fl.1 _ _ (hid q (trkd _ _ e))
  ·exact fl.1 _ _ (hid q (trkd _ _ r))
 ·obtain ⟨o1,q1⟩:=base0.there b o e (by simp);refine ⟨o1,hid q1 (notin b o e hb),fun n=>?_⟩;have q2:=base0.keep b o e n hb (by simp);rw [q1] at q2; cases q2; rfl
 ·obtain ⟨o1,q1⟩:=(I.hok b u e).there;have q2:=hid q1 (trkd _ _ e);have q3:=fl.1 _ _ q2;rw [q3] at q; cases q;exact q2
theorem a5r {mg:Str->Option Value} :
  Raises (cxOf (CXE P w) P w K mg base N qual scope f cd A outer s H E) C E:=fun pins σ H1 s1 h1 e args I hx hE=>raisesX pins σ H1 s1 h1 e I (MadeX.of hx).1 hE (.inl (MadeX.of hx).2)
section
variable {X:Cx}{x:Str}{C:Addr}{E:XK}{np cpos pos:Pos}{e:Expr}{es:List Expr}{t:TA}
def tRaise (C:Addr)(E:XK)(t:TA):TS:=fun _ σ H=>t σ H fun vs H1=>vs.length <= 1000/\E (.ref C) none H1
theorem a3x (c:ExcC X.K X.mg x C)(hr:Raises X C E)(ha:PA X (e :: es) t)(hc:X.calm=true)(hg:Gl X x:=by rfl)(hd:(x == ("__debug__":Str)) = false:=by decide)
  (he:starEach (e :: es) X.env=(false,eval e X.env) :: starEach es X.env:=by rfl) (hpl:(backTo cpos (starEach es X.env)).any (·.1) = false:=by rfl) :
  PS X (.Raise (some (.Call (.Name x np) (e :: es) [] cpos)) none pos) (tRaise C E t):=by
 intro pins s σ H D I h;obtain ⟨bm,N,nm,q,bs,hdct,sn,sub,ab,col,dd,k0,k1,k2,k3,k5,mN,hC,hN,hni,T⟩:=c.k.obj I.ok.mod.kin
 refine wpAny_Raise_call_subT (C:=C) (nm:=nm) (q:=q) (N:=N) (bs:=bs) (bm:=bm) (hdct:=hdct) (sn:=sn) (sub:=sub) (ab:=ab) (col:=col) (dd:=dd) (k0:=k0) (k1:=k1) (k2:=k2) (k3:=k3) (k5:=k5)
  PySem.F.excBase_ValueError (mN:=mN) (T.hasType PySem.F.excBase_ValueError.hasBase) (I.ok.hd hc) (by rw [he]; show (false || (backTo cpos (starEach es X.env)).any (·.1)) = false; rw [hpl]; rfl) hni (b7j I hg c.at_ ⟨rfl,?_⟩ hd)
 have h':=ha cpos pins s σ H _ I h;rw [he] at h' ⊢;refine Calls.evalArgs_plain (thn h' fun us s2 ⟨vs,H2,I2,r2,z,q2⟩=>?_);have hl:us.length <= sizeLine:=by rw [<- r2.length]; exact Nat.le_of_lt (a6d z)
 exact ⟨rfl,hl,I2.bk _ _ hC,hN.keeps I2.bk,T.keeps I2.bk,fun h' e hm=>hr pins σ H2 s2 h' e us I2 hm q2⟩
end
def XIn (X:Cx)(pins:List (Addr × Obj))(σ:St)(E:XK)(e:Value)(s':Shared):Prop:=∃ H1 s1,Inv X pins σ H1 s1/\CXE X.prog X.w X.stack H1 s1 E e s'
def PEx (X:Cx)(e:Expr)(t:XK->TE):Prop:=
 ∀ (pins:List (Addr × Obj)) (s:Shared) (σ:St) (H:Hp) (Q:VK) (E:XK),Inv X pins σ H s->t E σ H Q->wpAny (model X.prog X.w) X.A (eval e X.env) (EP X pins σ Q) (XIn X pins σ E) s
def PSx (X:Cx)(st:Stmt)(t:XK->TS):Prop:=
 ∀ (pins:List (Addr × Obj)) (s:Shared) (σ:St) (H:Hp) (D:c4b) (E:XK),Inv X pins σ H s->t E D σ H->wpAny (model X.prog X.w) X.A (exec st X.env) (SP X pins D) (XIn X pins σ E) s
section
variable {X:Cx}{k j:Nat}{ps:List Str}{sp:Sp}{x:Str}{p pos:Pos}{e:Expr}{es:List Expr}{t:TA}
theorem pex_fn (c:Cal X.prog X.w X.K X.mg X.base (CXE X.prog X.w) k x ps sp)(hr:b4y j X.A)(ha:PA X.nox (e :: es) t)(hk:k <= j:=by decide)(hg:Gl X x:=by rfl)(hdb:(x == ("__debug__":Str)) = false:=by decide)
  (he:starEach (e :: es) X.env=(false,eval e X.env) :: starEach es X.env:=by rfl) (hpl:(backTo pos (starEach es X.env)).any (·.1) = false:=by rfl) :
  PEx X (.Call (.Name x p) (e :: es) [] pos) (fun E=>tCall sp [] E t):=by
 intro pins s σ H Q E I h;obtain ⟨f,fd,F,hb,kp,hm⟩:=c.ex;refine wpAny_Call_Name_kw (b7j I hg hm ?_ hdb);refine PySem.W.callWith_K (h₀:=X.base) I.ok.mod.kin kp (wpAny_mono (ha pos pins s σ H _ (I.wish _) h) (fun us s1 ⟨vs,H1,I1,r,q⟩=>⟨I1.kIn,?_⟩) fun _ _ z=>z.elim) he hpl;have I1':Inv X pins σ H1 s1:=I1.unwish;have r2:a6q (vs ++ []) (us ++ []):=r.append .nil;have hl:(us ++ []).length=ps.length:=by rw [<- r2.length]; exact F.len _ _ _ _ q
 refine wpAny_call (codeAny_mono (F.run X.A X.stack s1 H1 ⟨us,[]⟩ (us ++ []) (vs ++ []) Q E (hr.mono hk) I1'.env0 (hb s1 us I1'.kIn hl) r2 q) fun r s' hq=>?_)
 cases r with
 | error e=>exact ⟨H1,s1,I1',hq⟩
 | ok fl=>
  cases fl with
  | ret u=>exact I1'.after hq
  | next=>exact False.elim hq
  | brk=>exact False.elim hq
  | cont=>exact False.elim hq
theorem psx_expr {e:Expr}{te:XK->TE}(he:PEx X e te)(hs:swapsWith e none pos.line X.env=pure false:=by rfl):PSx X (.Expr e pos) (fun E=>tDrop (te E)):=by
 intro pins s σ H D E I h;exact wpAny_Expr_any (thn (he pins s σ H _ E I h) fun v s1 ⟨x,H1,I1,r1,q1⟩=>⟨σ,H1,I1,q1⟩) I.quiet hs
end
def ExcAt (a C:Addr)(h:Heap):Prop:=∃ o,h.get? a=some o/\o.cls=.ref C
def xO (a C:Addr):HO:=.ext (ExcAt a C)
def Cx.suite (X:Cx)(ea:Addr):Cx:={ X with A:=X.A.mark (some (.ref ea)),calm:=false,xe:=fun _ _=>False }
section
variable {X:Cx}{pins:List (Addr × Obj)}{σ:St}{H:Hp}{s:Shared}
theorem Cx.Ok.suite (ok:X.Ok)(ea:Addr):(X.suite ea).Ok:=
 ⟨ok.mod,ok.kind,ok.glob,ok.blt,ok.above,ok.inj,ok.has,ok.cab,(fun z=>by cases z),ok.frames,ok.stk,ok.exf,ok.bs,ok.bsz,ok.noex,ok.exfs,ok.funs,ok.frf⟩
theorem Cx.Ok.unsuite {ea:Addr}(ok:(X.suite ea).Ok)(hd:X.calm=true->X.A.handled=none):X.Ok:=
 ⟨ok.mod,ok.kind,ok.glob,ok.blt,ok.above,ok.inj,ok.has,ok.cab,hd,ok.frames,ok.stk,ok.exf,ok.bs,ok.bsz,ok.noex,ok.exfs,ok.funs,ok.frf⟩
theorem Inv.suite (I:Inv X pins σ H s)(ea:Addr):Inv (X.suite ea) pins σ H s:=⟨I.ok.suite ea,I.os,I.bare,I.base,I.loc,I.cell,I.free,I.freeC,I.pin,I.hok,I.len⟩
theorem Inv.unsuite {ea:Addr}(I:Inv (X.suite ea) pins σ H s)(hd:X.calm=true->X.A.handled=none):Inv X pins σ H s:=⟨I.ok.unsuite hd,I.os,I.bare,I.base,I.loc,I.cell,I.free,I.freeC,I.pin,I.hok,I.len⟩
theorem gone_ok {M:Model}{E:Value->Shared->Prop}{i:Nat}{n:Str}{pos:Pos}{Q:Unit->Shared->Prop}(I:Inv X pins σ H s)(hN:X.N.Nodup)(hi:X.N[i]? = some n)(hk:X.env.scope.names.lookup n=some .local)
  (h:∀ s',Inv X pins (σ.set i none) H s'->Q () s'):wpAny M A (do bindName X.env n .none; unbindBehindTheSuite X.env n pos) Q E s:=by
 obtain ⟨m,hn,hl⟩:=id I.loc;have hcls:(X.env.scope.kind == .class || (X.env.scope.kind == .module && X.env.locals != X.env.globals)) = false:=by rw [I.ok.kind]; rfl
 have hiσ:i < σ.length:=by rw [I.len]; exact (List.getElem?_eq_some_iff.mp hi).1
 have cne:=I.cne
 have tracked:∀ {a:Addr} {h':Heap},(∃ o,s.heap.get? a=some o/\H a=none)->Heap.SameBut a s.heap h'->HOk X.prog X.w H h':=fun {a h'} ha hs b ob e=>by
  obtain ⟨_,_,hfree⟩:=ha;refine (I.hok b ob e).stay (fun c w' hc q=>(hs.2 c ?_).trans q) (fun _ q=>q) fun _ _ q=>q;rintro rfl
  rcases hc with rfl | hc
  ·rw [hfree] at e; cases e
  ·rw [hfree] at hc; cases hc
 refine wpAny_nameGoes_keeps hk hn hcls fun h' v hn' hs=>?_;obtain ⟨oL,_,_,hoL,_⟩:=id hn;refine h _ ⟨I.ok,I.os,I.bare,⟨fun b o e n hb hx=>?_,fun b o e n hb hx=>?_,I.base.free,fun b o e hx=>?_,I.base.tups,I.base.frzs,I.base.tbls⟩,⟨_,hn',fun j y v' e1 e2 e3=>?_⟩,fun y c e=>?_,I.free,I.freeC,fun p hp=>?_,tracked ⟨oL,hoL,I.free⟩ hs,by simpa using I.len⟩
 ·exact (hs.2 b (Nat.ne_of_lt (Nat.lt_of_lt_of_le (Heap.lt_size e) I.ok.above))).trans (I.base.keep b o e n hb hx)
 ·obtain ⟨sl,e1⟩:=I.base.slot b o e n hb hx;exact ⟨sl,(hs.2 b (Nat.ne_of_lt (Nat.lt_of_lt_of_le (Heap.lt_size e) I.ok.above))).trans e1⟩
 ·obtain ⟨o',e1⟩:=I.base.there b o e hx;exact ⟨o',(hs.2 b (Nat.ne_of_lt (Nat.lt_of_lt_of_le (Heap.lt_size e) I.ok.above))).trans e1⟩
 ·by_cases hj:j=i
  ·subst hj;rw [List.getElem?_set_self hiσ] at e2;cases e2
  ·rw [List.getElem?_set_ne (Ne.symm hj)] at e2;obtain ⟨u',r',q⟩:=hl j y v' e1 e2 e3;refine ⟨u',r',?_⟩
   rcases q with ⟨k,e⟩ | ⟨k,c,e,z⟩
   ·refine .inl ⟨k,?_⟩;have:y ≠ n:=fun e=>hj (d8s hN e1 (e ▸ hi));simp [this,e]
   ·exact .inr ⟨k,c,e,z.sameBut hs (cne y c e)⟩
 ·obtain ⟨w',z⟩:=I.cell y c e;exact ⟨w',z.sameBut hs (cne y c e)⟩
 ·obtain ⟨e,n,ne,nf,d⟩:=I.pin p hp;exact ⟨(hs.2 p.1 ne).trans e,n,ne,nf,d⟩
end
def tTry (K:PySem.W.Frag)(W:Addr)(i:Nat)(t:XK->TS)(ts:TS):TS:=fun D σ H=>
 t (fun cls _ H2=>∃ C,cls=.ref C/\PySem.W.exmOne K (.ref C) (.ref W) = some true/\∀ ea,H2 ea=none->
  ts ⟨fun σ2 H3=>D.nx (σ2.set i none) H3,D.rt,fun σ2 H3=>D.bk (σ2.set i none) H3,fun σ2 H3=>D.ct (σ2.set i none) H3⟩ (σ.set i (some (.ref ea))) (upd H2 ea (xO ea C))) D σ H
section
variable {X:Cx}{st b₀:Stmt}{suite:List Stmt}{W:Addr}{i:Nat}{y n:Str}{np hpos pos:Pos}{t:XK->TS}{ts:TS}
theorem ps_try (hW:X.mg y=some (.ref W))(hN:X.N.Nodup)(hi:X.N[i]? = some n)(hl:X.env.scope.names.lookup n=some .local)(hc:X.calm=true)(hst:X.stack=X.env :: X.outer)(hfr:X.env.frame=some X.env.locals)
  (hb:PSx X st t) (hz:∀ ea,PSs (X.suite ea) (b₀ :: suite) ts) (hg:Gl X y:=by rfl) (hd:(y == ("__debug__":Str)) = false:=by decide) :
  PS X (.Try [st] [.ExceptHandler (some (.Name y np)) (some n) (b₀ :: suite) hpos] [] [] pos) (tTry X.K W i t ts):=by
 intro pins s σ H D I h;have hh:=I.ok.hd;refine wpAny_Try_except (wpAny_execs_cons (wpAny_mono (hb pins s σ H D _ I h) (fun f s1 q=>?_) fun e s1 q=>?_))
 ·cases f with
  | next=>exact wpAny_execs_nil (wpAny_execs_nil q)
  | ret v=>exact q
  | brk=>exact q
  | cont=>exact q
 ·obtain ⟨H1,s2,I2,ea,cls,H',B,rfl,F⟩:=q;obtain ⟨C,rfl,hm,hts⟩:=F.want;obtain ⟨a0,fl⟩:=F.fly;have fl0:Heap.FlyingW B (X.env :: X.outer) ea (.ref C) a0 s1.heap:=hst ▸ fl;have hfrm:X.A.frames=some (X.env :: X.outer):=hst ▸ I.ok.frames;refine wpAny_looks_onW hfrm hfr fl0 fun h4 held4 up4=>?_;refine wpAny_landsW held4 fun h5 fl5 up5'=>?_;have up5:=up4.trans up5';have I5:Inv X pins σ H' { s1 with heap:=h5 }:=F.inv (t':=s1.toks) I2 fl5.1 up5;have I5':=I5.suite ea;obtain ⟨ob,hob,hobc⟩:=fl5.there;refine wpAny_handleBy_cons (codeAny_handlers_test (b7j (X:=X.suite ea) I5' hg hW ?_ hd)) (by intro z; cases z);have ty:∀ M:Model,PySem.W.Looks M h5 (typeOf (.ref ea)) (.ref C):=fun M=>hobc ▸ (PySem.W.Looks.ld hob).andThen .now;refine PySem.W.Looks.here (PySem.W.exm_one (K:=X.K) I5.kIn (ty _) hm) ?_;refine codeAny_handlers_suite_as ?_;refine lands_againW fl5 fun h6 fl6 up6=>?_;have I6:Inv X pins σ H' { s1 with heap:=h6 }:=F.inv (t':=s1.toks) I2 fl6.1 (up5.trans up6);obtain ⟨ob6,hob6,hobc6⟩:=fl6.there;have nea:=F.free;have hea6:h6.get? ea=some ob6:=hob6;obtain ⟨_,oe,vs,T,oT,tt,he6,_,hd6,_⟩:=(show _/\_ from ⟨trivial,fl6.2.2.2⟩);have neB:B.get? ea=none:=fl6.2.1
  have notf:ea ∉ frs X.stack:=fun z=>by
   obtain ⟨_,o2,q2,d2⟩:=fl6.2.2.1.mem (hst ▸ z);rw [he6] at q2; cases q2;exact d2 _ hd6
  have olds:∀ b o,s2.heap.get? b=some o->b ≠ ea:=fun b o e z=>by
   subst z;obtain ⟨o',q,_⟩:=F.old b o e notf;rw [neB] at q; cases q
  have I7:Inv X pins σ (upd H' ea (xO ea C)) { s1 with heap:=h6 }:=by
   have fr6:h6.FunFrames B X.stack:=hst ▸ fl6.2.2.1;have up:=up5.trans up6;refine I2.call' (s':={ s1 with heap:=h6 }) (ch:=[]) F.os ⟨fun b o e n hb _=>?_,fun b o e n hb _=>?_,fun b o e n _=>?_,fun b o e _=>?_,fun b xs e=>?_,fun b o u e=>?_,fun b ps e=>?_⟩ (fun b u e=>?_) F.bare (fun _ z=>nomatch z)
   ·obtain ⟨o',q,z⟩:=F.old b o e hb;rw [z n] at q;exact fl6.1 _ _ q
   ·obtain ⟨sl,q⟩:=F.un.slot b o e n hb (by simp);obtain ⟨_,o2,q2,d2⟩:=(hst ▸ fl.2.2.1:s1.heap.FunFrames B X.stack).mem hb;rw [q] at q2; cases q2;obtain ⟨sl',q'⟩:=up b _ q d2;exact ⟨sl',q'⟩
   ·rw [a0q (olds b o e)]; exact F.un.free b o e n (by simp)
   ·by_cases hb:b ∈ frs X.stack
    ·obtain ⟨_,o2,q2,d2⟩:=fr6.mem hb;exact ⟨_,q2⟩
    ·obtain ⟨o',q,_⟩:=F.old b o e hb;exact ⟨o',fl6.1 _ _ q⟩
   ·have q:=F.un.tups b xs e;rw [a0q (a0n q nea)]; exact q
   ·have q:=F.un.frzs b o u e;rw [a0q (a0n q nea)]; exact q
   ·obtain ⟨more,q⟩:=F.un.tbls b ps e;exact ⟨more,by rw [a0q (a0n q nea)]; exact q⟩
   ·by_cases hb:b=ea
    ·subst hb;rw [a0c] at e;cases e;exact ⟨⟨ob6,hob6,hobc6⟩,⟨ob6,hob6⟩,fun h1 h2 ⟨o,z,zc⟩ k=>⟨o,k o z,zc⟩⟩
    ·rw [a0q hb] at e;refine (F.hok b u e).stay (fun c v hc' q=>?_) (fun c q=>by rw [a0q (a0n q nea)]; exact q) fun c xs q=>by rw [a0q (a0n q nea)]; exact q
     rcases hc' with r | r
     ·subst r; exact fl6.1 _ _ (F.trk _ _ _ e q)
     ·exact fl6.1 _ _ (F.trk _ _ _ r q)
  refine d8y (X:=X.suite ea) (I7.suite ea) hN hi (.inl hl) (v:=.ref ea) rfl (fun s8 I8=>?_) (.inr hl);refine wpAny_mono (hz ea pins s8 _ _ _ I8 (hts ea nea)) (fun f s9 q9=>?_) fun _ _ z=>z.elim
  have fin:∀ {Q:Unit->Shared->Prop} {σ9:St} {H9:Hp},Inv (X.suite ea) pins σ9 H9 s9->(∀ s',Inv X pins (σ9.set i none) H9 s'->Q () s')->wpAny (model X.prog X.w) X.A (do bindName X.env n .none; unbindBehindTheSuite X.env n hpos) Q X.xe s9:=
   fun I9 k=>gone_ok (I9.unsuite hh) hN hi hl k
  cases f with
  | next=>
   obtain ⟨σ9,H9,I9,q⟩:=q9;exact fin I9 fun s' I'=>⟨_,_,I',q⟩
  | brk=>
   obtain ⟨σ9,H9,I9,q⟩:=q9;exact fin I9 fun s' I'=>⟨_,_,I',q⟩
  | cont=>
   obtain ⟨σ9,H9,I9,q⟩:=q9;exact fin I9 fun s' I'=>⟨_,_,I',q⟩
  | ret v=>
   obtain ⟨x9,σ9,H9,I9,r9,q⟩:=q9;exact fin I9 fun s' I'=>⟨x9,_,_,I',r9,q⟩
end
theorem c2g {X:Cx}:b4r (CXE P w) X E0:=fun _ _ _ _ _ _ _ ⟨_,_,_,_,_,F⟩=>F.want.elim
theorem Fun.okE {mg:Str->Option Value}{x:Str}{st:Stmt}{fd:FuncData}{ps:List Str}{k:Nat}{sp:Sp}(F:Fun K x qual st f fd)(S:a0r N ps (a0f st))(len:∀ vs H Q E,sp vs H Q E->vs.length=ps.length)
  (hbody:∀ (cdv:Value) (A:Around) (outer:List Env) (s:Shared) (H:Hp) (vs:List V) (Q:VK) (E:XK),b4y k (A.deeper (envOfC qual (a0f st) s.heap.objs.size f cdv))->sp vs H Q E->
   ∃ t,PSs (cxOf (CXE P w) P w K mg base N qual (a0f st) f cdv A outer s H E) (a2z st) t/\t { nx:=fun _ H'=>Q .non H',rt:=Q } (start N vs) H):a2s P w K mg base (CXE P w) (k + 1) f fd ps sp:=by
 obtain ⟨oc,od,kV,doc,pm,an,cdv,ct,osl,rfl,lk,hcd⟩:=F.ex;exact fn_of lk hcd S len fun A outer s H vs Q E hr hsp=>hbody cdv A outer s H vs Q E hr hsp
end L2
namespace L2
open PySem PySem.Spec PyProof.Rows PySem.Builtin PySem.Builtin.ObjectAttr PySem.Builtin.Getset_descriptor
variable {C:Addr}{h:Heap}{H:Hp}{M:Model}{K:PySem.W.Frag}{σ:St}{c:V}{cv:Value}{D:c4b}
section
variable {prog:Program}{w:World}{A:Around}{E:Value->Shared->Prop}{s:Shared}{K:PySem.W.Frag}{a C:Addr}
theorem ExcAt.ty (p:ExcAt a C h):PySem.W.Looks M h (typeOf (.ref a)) (.ref C):=by
 obtain ⟨o,ho,hc⟩:=p;exact hc ▸ (PySem.W.Looks.ld ho).andThen .now
theorem exc_find (c:d8q K C)(X:K.In h):PySem.W.Looks M h (find (.ref a) (.ref C) "__class__") (.bind (.builtin "getset_descriptor.__get__") (.builtin "object.__class__")):=by
 have L1:=PySem.W.looks_findIn (M:=M) X c.ca;have L2:PySem.W.Looks M h (getOf (some (.builtin "object.__class__"))) (some (.builtin "getset_descriptor.__get__")):=PySem.W.looks_specialIn X c.cg;have L3:=PySem.W.looks_takesIn (M:=M) X c.tk;exact L1.andThen (L2.andThen ((show PySem.W.Looks M h (dataDescriptor? (some (.builtin "object.__class__")) (some (.builtin "getset_descriptor.__get__"))) (some (.builtin "getset_descriptor.__get__",.builtin "object.__class__")) from L3.andThen .now).andThen (PySem.W.Looks.tag .now)))
theorem exc_getcls {R:Result->Shared->Prop}{tp:Value}(X:K.In s.heap)(p:ExcAt a C s.heap)(hm:PySem.W.mroIn K C (.type "object") = some true)
  (h:R (.ok (.ret (.ref C))) s):codeAny (model prog w) A (.call (.builtin "getset_descriptor.__get__") ⟨[.builtin "object.__class__",.ref a,tp],[]⟩) R s:=by
 obtain ⟨hh,g,dr,t,os⟩:=s;have L0:=p.ty (M:=model prog w);have L1:=PySem.W.looks_mroIn (M:=model prog w) X hm;refine codeAny_call_builtin PySem.W.KF.slot_gs.plain PySem.W.KF.entry_gs (PySem.W.KF.slot_gs.check _ _ _ _ _ _ _ _ PySem.W.KF.type_class (PySem.W.KF.args_gs _ _ _) ?_);unfold Builtin.«getset_descriptor.__get__» descrGet;rw [PySem.W.dga_obj];refine wpAny_bind (wpAny_pure ?_);unfold descrGetter descrCheckInstance descrNameAndClass isInstance;simp only [PySem.W.KF.owner_class]
 repeat lk
 refine ⟨Code.quiet_builtin _ (by decide +kernel),codeAny_builtin PySem.W.KF.entry_class ?_⟩;unfold Builtin.«object.__class__» shownTypeOf
 repeat lk
 exact h
theorem exc_check {nameV:Value}{Q:Unit->Shared->Prop}(X:K.In s.heap)(p:ExcAt a C s.heap)(hm:PySem.W.mroIn K C (.type "BaseException") = some true)(hq:Q () s) :
  wpAny M A (checkBuiltinCall "BaseException.__getattribute__" ⟨[.ref a,nameV],[]⟩) Q E s:=by
 obtain ⟨hh,g,dr,t,os⟩:=s;have hk:builtinKind "BaseException.__getattribute__" = some .slot:=by decide +kernel
 have hsplit:splitId "BaseException.__getattribute__" = some ("BaseException","__getattribute__"):=by decide +kernel
 have L0:=p.ty (M:=M);have L1:=PySem.W.looks_mroIn (M:=M) X hm;have LI:PySem.W.Looks M hh (isInstance (.ref a) (.type "BaseException")) true:=L0.andThen L1;have ha:=PySem.F.args_bexc_ga (.ref a) nameV;simp only [checkBuiltinCall,hk,hsplit];refine wpAny_bind (LI.at ?_)
 repeat lk
 exact hq
theorem exc_entry {tk:Tok}{Q:PySem.Fin->Shared->Prop}(c:d8q K C)(X:K.In s.heap)(p:ExcAt a C s.heap)(h:Q (.done (.ret (.ref C))) s) :
  wpAny (model prog w) A (Builtin.«object.__getattribute__» ⟨[.ref a,.str "__class__" tk],[]⟩) Q E s:=by
 obtain ⟨hh,g,dr,t,os⟩:=s;have L0:=p.ty (M:=model prog w);have L1:=exc_find (M:=model prog w) (a:=a) c X;unfold Builtin.«object.__getattribute__»
 repeat (first | with_reducible refine wpAny_call ?_ | lk)
 refine exc_getcls X p c.mo ?_;dsimp only
 repeat lk
 exact h
theorem exc_class {Q:Option Value->Shared->Prop}(c:d8q K C)(X:K.In s.heap)(p:ExcAt a C s.heap)(h:Q (some (.ref C)) { s with toks:=s.toks + 1 }):wpAny (model prog w) A (getAttr? (.ref a) "__class__") Q E s:=by
 obtain ⟨hh,g,dr,t,os⟩:=s;have L0:=p.ty (M:=model prog w);have L1:=PySem.W.looks_findIn (M:=model prog w) X c.ga;have L2:=PySem.W.looks_findIn (M:=model prog w) X c.gt;unfold getAttr? getAttrBy? getAttrBy;refine wpAny_bind (wpAny_mkText (wpAny_bind (wpAny_attempt (wpAny_holding (wpAny_bind (L0.at (wpAny_bind (L1.at ?_))))))))
 repeat (first | with_reducible refine wpAny_call ?_ | with_reducible refine wpAny_attempt ?_ | lk)
 refine codeAny_call_builtin PySem.F.attr_ValueError.ga.plain PySem.F.entry_bexc_ga (exc_check (s:=⟨hh,g,dr,t + 1,os⟩) X p c.mb ?_);refine exc_entry (s:=⟨hh,g,dr,t + 1,os⟩) c X p ?_;dsimp only;exact PySem.W.handed_on rfl (wpAny_pure h)
theorem exc_cls (c:d8q K C)(X:K.In h):PySem.W.Looks M h (isType (.ref C)) true:=by
 obtain ⟨bm,N,nm,q,bs,hdct,sn,sub,ab,col,dd,k0,k1,k2,k3,k5,mN,hC,_⟩:=c.obj X;intro A' Q' E' s' k q;unfold isType loadHead;exact wpAny_bind (wpAny_loadPart (k _ _ hC) (wpAny_pure q))
theorem exc_ne (c:d8q K C)(X:K.In h){tp:Addr}{dd:Option Addr}{its:List Value}{n:Nat}{sl:Array (Option Value)}(htp:h.get? tp=some ⟨.type "tuple",dd,.seq its.toArray n,sl⟩):(Value.ref C == .ref tp) = false:=by
 obtain ⟨bm,N,nm,q,bs,hdct,sn,sub,ab,col,dd,k0,k1,k2,k3,k5,mN,hC,_⟩:=c.obj X;refine Bool.eq_false_iff.mpr fun z=>?_;have e:C=tp:=Value.ref.inj (beq_iff_eq.mp z);subst e;have z2:=congrArg Obj.data (Option.some.inj (hC.symm.trans htp));cases z2
theorem kitx_exc (c:d8q K C):PySem.W.KitX K (.ref a) (.ref C) (ExcAt a C) where
 ty:=fun _ _ _ p=>p.ty
 it:=fun _ _ X _=>exc_cls c X
 ne:=fun _ tp dd its n sl X htp=>exc_ne c X htp
 ca:=fun X p k=>exc_class c X p k
end
section
variable {X:Cx}
def rIsX (K:PySem.W.Frag)(c:V)(cv:Value):List V->Hp->VK->Prop:=fun xs H Q=>∃ a C b,xs=[.ref a,c]/\H a=some (xO a C)/\d8q K C/\PySem.W.kitOne K (.ref C) cv=some b/\Q (.bl b) H
theorem call_isX (hc:∀ u,a6j c u->u=cv):b2t X (.builtin "isinstance") (rIsX X.K c cv):=by
 intro pins s σ H xs us Q I r h;obtain ⟨a,C,b,rfl,ha,ek,e,q⟩:=h;obtain ⟨u,w',rfl,ru,rw'⟩:=a6q.two r;cases hc w' rw';cases (show u=Value.ref a from ru);obtain ⟨p,_⟩:=(show a6c X.prog X.w H s.heap a (xO a C) from I.hok a _ ha);exact PySem.W.kia_one (kitx_exc ek) I.kIn p e (fun z=>nomatch z) fun tk=>⟨.bl b,H,I.tok tk,rfl,q⟩
theorem pe_isXO {x:Str}{p p2 pos:Pos}{e:Expr}{te:TE}(hg:Gl X "isinstance")(hm:X.mg "isinstance" = none)(he:PE X e te)(hmC:X.mg x=some (.ref C))(hgT:Gl X x:=by rfl)(hd:(x == ("__debug__":Str)) = false:=by decide)
  (h1:starEach [e,.Name x p2] X.env=(false,eval e X.env) :: starEach [.Name x p2] X.env:=by rfl) (h2:(backTo pos (starEach [.Name x p2] X.env)).any (·.1) = false:=by rfl) :
  PE X (.Call (.Name "isinstance" p) [e,.Name x p2] [] pos) (tCB (rIsX X.K (.ref C) (.ref C)) (b9v te (b9v (tC (.ref C)) tNil))):=
 a2g (call_isX fun u hu=>hu) hg hm boot_isinstance (a0a he (a0a (d8d hgT hmC rfl hd) a0d) h1) (by decide) (by decide) h1 h2
theorem a9n {Q:VK}{a:Addr}{b:Bool}(h:H a=some (xO a C))(k:d8q K C)(e:PySem.W.kitOne K (.ref C) cv=some b)(q:Q (.bl b) H):rIsX K c cv [.ref a,c] H Q:=⟨a,C,b,rfl,h,k,e,q⟩
theorem st_raise {E:XK}{t:TA}(h:t σ H fun vs H1=>vs.length <= 1000/\E (.ref C) none H1):tRaise C E t D σ H:=h
theorem st_try {W:Addr}{i:Nat}{t:XK->TS}{ts:TS}(h:t (fun cls _ H2=>∃ C,cls=.ref C/\PySem.W.exmOne K (.ref C) (.ref W) = some true/\∀ ea,H2 ea=none->
  ts ⟨fun σ2 H3=>D.nx (σ2.set i none) H3,D.rt,fun σ2 H3=>D.bk (σ2.set i none) H3,fun σ2 H3=>D.ct (σ2.set i none) H3⟩ (σ.set i (some (.ref ea))) (upd H2 ea (xO ea C))) D σ H):tTry K W i t ts D σ H:=h
end
end L2
namespace Tw
theorem cnt_xor2 (p q:Nat->Bool):∀ k,(cnt (fun i=>p i ^^ q i) k) % 2=(cnt p k + cnt q k) % 2
 | 0=>rfl
 | k + 1=>by
  have h:=cnt_xor2 p q k;rw [cnt,cnt,cnt];cases p k <;> cases q k <;> simp <;> omega
theorem big2 (a b:Nat):∃ k,a < 2 ^ k/\b < 2 ^ k:=⟨a + b,by
  have:=@Nat.lt_two_pow_self (a + b); omega,by
  have:=@Nat.lt_two_pow_self (a + b); omega⟩
theorem b9m (a b:Nat):pop (a ^^^ b) % 2=(pop a + pop b) % 2:=by
 obtain ⟨k,ha,hb⟩:=big2 a b;rw [d7c k _ (b8b ha hb),d7c k _ ha,d7c k _ hb,<- cnt_xor2]
 congr 1
 exact d1r fun i _=>by rw [Nat.testBit_xor]
theorem a9u (a b c:Nat):a &&& (b ^^^ c) = (a &&& b) ^^^ (a &&& c):=by
 apply Nat.eq_of_testBit_eq;intro i;simp only [Nat.testBit_and,Nat.testBit_xor];cases a.testBit i <;> cases b.testBit i <;> cases c.testBit i <;> rfl
theorem a9t (a b c:Nat):(a ^^^ b) &&& c=(a &&& c) ^^^ (b &&& c):=by
 rw [Nat.and_comm,a9u,Nat.and_comm c a,Nat.and_comm c b]
theorem pop_both (x1 z1 x2 z2:Nat):pop ((x1 ^^^ x2) &&& (z1 ^^^ z2)) % 2=(pop (x1 &&& z1) + pop (x2 &&& z2) + pop ((x1 &&& z2) ^^^ (z1 &&& x2))) % 2:=by
 have e:(x1 ^^^ x2) &&& (z1 ^^^ z2) = ((x1 &&& z1) ^^^ (x1 &&& z2)) ^^^ ((x2 &&& z1) ^^^ (x2 &&& z2)):=by
  rw [a9t,a9u,a9u]
 have h1:=b9m ((x1 &&& z1) ^^^ (x1 &&& z2)) ((x2 &&& z1) ^^^ (x2 &&& z2));have h2:=b9m (x1 &&& z1) (x1 &&& z2);have h3:=b9m (x2 &&& z1) (x2 &&& z2);have h4:=b9m (x1 &&& z2) (z1 &&& x2);rw [Nat.and_comm z1 x2] at h4 ⊢;rw [e];omega
end Tw
namespace Tw
theorem d5k (b:Bool):bI b=((b.toNat:Nat):Int):=by cases b <;> rfl
end Tw
namespace L2
open PySem PySem.Spec PyProof.Rows
variable {e:Expr}{p p2 pos:Pos}{x:Str}{te:TE}
section
variable {K:PySem.W.Frag}{H:Hp}{Q:VK}{σ:St}{ta tb tc:TE}{r r':R2}{n k:Nat}{i:Int}{p q:Bool}{a:Addr}
theorem st_andB (h:Q (.int (Tw.bI (p && q))) H):rI0 (fun i j=>.int (Builtin.bitAnd i j)) (.int (Tw.bI p)) (.int (Tw.bI q)) H Q:=d6y (by
 rw [Tw.d5k,Tw.d5k,b1g];have e:((p.toNat &&& q.toNat:Nat):Int) = Tw.bI (p && q):=by cases p <;> cases q <;> rfl
 rw [e]; exact h)
theorem st_shlB (c:k <= 1000)(h:Q (.int ((p.toNat * 2 ^ k:Nat):Int)) H):rI CPow (fun i j=>.int (i * 2 ^ j.toNat)) (.int (Tw.bI p)) (.int (k:Int)) H Q:=st_i (cpow_n c (by cases p <;> decide)) (by
 rw [Int.toNat_natCast,Tw.d5k,Tw.pow2_cast,<- Int.natCast_mul]; exact h)
end
section
variable {X:Cx}{K:PySem.W.Frag}
theorem ix_tupK (h:X.K=K):IxR X (rIxT K):=h ▸ a0s
theorem c8d (h:X.K=K):IxR X (rIxL K):=h ▸ b8h
theorem call_lenK (h:X.K=K):b2t X (.builtin "len") (rLen K):=h ▸ a4k
theorem pe_isBK {T:String}(h:X.K=K)(hg:Gl X "isinstance")(hm:X.mg "isinstance" = none)(he:PE X e te)(hmT:X.mg x=none)(hT:bootBuiltins x=some (.type T))(hgT:Gl X x:=by rfl)(hn:x ≠ "__name__":=by decide)(hd:(x == ("__debug__":Str)) = false:=by decide)
  (h1:starEach [e,.Name x p2] X.env=(false,eval e X.env) :: starEach [.Name x p2] X.env:=by rfl) (h2:(backTo pos (starEach [.Name x p2] X.env)).any (·.1) = false:=by rfl) :
  PE X (.Call (.Name "isinstance" p) [e,.Name x p2] [] pos) (tCB (rIsi K (.ty T) (.type T)) (b9v te (b9v (tC (.ty T)) tNil))):=h ▸ c2b hg hm he hmT hT hgT hn hd h1 h2
end
section
variable {X:Cx}{K:PySem.W.Frag}
theorem b5k {C:Addr}(h:X.K=K)(hg:Gl X "isinstance")(hm:X.mg "isinstance" = none)(he:PE X e te)(hmC:X.mg x=some (.ref C))(hgT:Gl X x:=by rfl)(hd:(x == ("__debug__":Str)) = false:=by decide)
  (h1:starEach [e,.Name x p2] X.env=(false,eval e X.env) :: starEach [.Name x p2] X.env:=by rfl) (h2:(backTo pos (starEach [.Name x p2] X.env)).any (·.1) = false:=by rfl) :
  PE X (.Call (.Name "isinstance" p) [e,.Name x p2] [] pos) (tCB (rIsX K (.ref C) (.ref C)) (b9v te (b9v (tC (.ref C)) tNil))):=h ▸ pe_isXO hg hm he hmC hgT hd h1 h2
end
end L2
namespace L2
open PySem PySem.Spec PyProof.Rows
variable {σ:St}
theorem all_getD (bs:List Bool):(List.range bs.length).all (fun i=>bs.getD i false) = bs.all id:=by
 rw [Bool.eq_iff_iff,List.all_eq_true,List.all_eq_true]
 constructor
 ·intro h b hb;obtain ⟨i,hi,e⟩:=List.getElem_of_mem hb;have:=h i (List.mem_range.mpr hi);rw [List.getD_eq_getElem?_getD,List.getElem?_eq_getElem hi,Option.getD_some,e] at this;exact this
 ·intro h i hi;have hi':=List.mem_range.mp hi;rw [List.getD_eq_getElem?_getD,List.getElem?_eq_getElem hi',Option.getD_some];exact h _ (List.getElem_mem hi')
section
variable {X:Cx}
def rAll (K:PySem.W.Frag):List V->Hp->VK->Prop:=fun xs H Q=>∃ (p:Addr) (bs:List Bool),xs=[.ref p]/\SqL K H p (bs.map V.bl)/\Q (.bl (bs.all id)) H
theorem b4x (hc:X.calm=true):b2t X (.builtin "all") (rAll X.K):=by
 intro pins s σ H xs us Q I r h;obtain ⟨p,bs,rfl,hs,q⟩:=h;obtain ⟨u,rfl,ru⟩:=a6q.one r;cases (show u=Value.ref p from ru);obtain ⟨its,rv,pl,hz⟩:=I.list hs;have hlen:its.length=bs.length:=by rw [<- rv.length,List.length_map]
 have hpl:p < s.heap.objs.size:=by
  obtain ⟨o,n,e,_⟩:=pl;exact Heap.lt_size e
 refine call_all_walk (wpAny_pyIter_list pl.isList ?_);refine ⟨s.heap.objs.size,[s.heap.objs.size,p],[s.heap.objs.size],its.toArray.size,_,_,fun i=>bs.getD i false,rfl,Walks.list (A:=X.A.in1) (I.ok.hd hc) s.heap.objs.size p (Nat.ne_of_lt hpl) its.toArray,⟨⟨_,Heap.get?_push_size _ rfl,rfl,rfl⟩,?_⟩,fun i v s' Q' E' hv hq=>?_,fun h' tk hk=>?_⟩
 ·exact pl.isList.at fun o e=>Heap.get?_push_of_some _ e
 ·have hv':its[i]? = some v:=by simpa using hv
  have hi:i < bs.length:=by
   rw [<- hlen]; exact (List.getElem?_eq_some_iff.mp hv').1
  obtain ⟨u,e1,e2⟩:=rv.get (i:=i) (x:=.bl bs[i]) (by rw [List.getElem?_map,List.getElem?_eq_getElem hi]; rfl);rw [hv'] at e1; cases e1;cases (show v=Value.bool bs[i] from e2);refine wpAny_truthy_bool ?_;dsimp only at hq;rw [List.getD_eq_getElem?_getD,List.getElem?_eq_getElem hi,Option.getD_some] at hq;exact hq
 ·have e:its.toArray.size=bs.length:=by simpa using hlen
  rw [e,all_getD];refine ⟨.bl _,H,I.kept (t':=tk) (h':=h') fun b o eb=>hk b o (fun z=>?_) (Heap.get?_push_of_some _ eb),rfl,q⟩;have:b=s.heap.objs.size:=by simpa using z
  exact Nat.lt_irrefl _ (this ▸ Heap.lt_size eb)
theorem Inv.bigD {pins:List (Addr × Obj)}{H:Hp}{s:Shared}(I:Inv X pins σ H s):sysModules < s.heap.objs.size:=by
 have h:mainGlobals < s.heap.objs.size:=(I.mod.glob.keeps I.bk).lt;exact Nat.lt_trans (by decide) h
def tDNew:TE:=fun _ H Q=>∀ p,H p=none->Q (.ref p) (upd H p (.dK []))
theorem c0p {pos:Pos}:PE X (.Dict [] [] pos) tDNew:=fun pins s σ H Q I h=>
 wpAny_Dict_empty ⟨.ref s.heap.objs.size,_,I.laid (a:=s.heap.objs.size) (o:=.dK []) (t':=s.toks) (fun _ _ q=>Heap.get?_push_of_some _ q) (Nat.le_refl _) ⟨Nat.zero_le _,beq_eq_false_iff_ne.mpr (Ne.symm (Nat.ne_of_lt I.bigD)),[],.nil,Heap.DictOf.new s.heap⟩,rfl,h _ (I.hok.fresh (Nat.le_refl _))⟩
def rLst (K:PySem.W.Frag):List V->Hp->VK->Prop:=fun xs H Q=>∃ p ys,xs=[.ref p]/\(SqL K H p ys\/SqT K H p ys)/\∀ l,H l=none->Q (.ref l) (upd H l (.lst ys))
theorem b1e:b2t X (.type "list") (rLst X.K):=call_list_of
end
section
variable {K:PySem.W.Frag}{H:Hp}{Q:VK}{a:Addr}{xs:List V}
theorem c6d {bs:List Bool}(s:SqL K H a (bs.map V.bl))(q:Q (.bl (bs.all id)) H):rAll K [.ref a] H Q:=⟨a,bs,rfl,s,q⟩
theorem st_lstT (s:SqT K H a xs)(q:∀ l,H l=none->Q (.ref l) (upd H l (.lst xs))):rLst K [.ref a] H Q:=⟨a,xs,rfl,.inr s,q⟩
theorem st_yes {R:Bool->Hp->Prop}(h:R true H):tYes σ H R:=h
theorem b5v {tl:TE}{tt:TT}{te:TE}(e:∀ P:V->Hp->Prop,P (.ref a) H->tl σ H P)(s:SqT K H a xs)(Pv:Nat->List V->Hp->Prop)(hn:xs.length <= 1000)(h0:Pv 0 [] H)(hl:∀ i ys H,Pv i ys H->ys.length <= i)(hk:∀ i ys H,Pv i ys H->SqT K H a xs)
  (hs:∀ i x ys H,xs[i]? = some x->Pv i ys H->tt (some x :: σ) H fun b H2=>if b=true then te (some x :: σ) H2 fun y H3=>Pv (i + 1) (ys ++ [y]) H3 else Pv (i + 1) ys H2)
  (hd:∀ ys H,Pv xs.length ys H->∀ p,H p=none->Q (.ref p) (upd H p (.lst ys))):tComp (iTup K tl) tt te σ H Q:=
 e _ ⟨a,rfl,⟨xs,s⟩,comp_tup Pv hn h0 hl hk hs hd⟩
theorem st_dnew (q:∀ p,H p=none->Q (.ref p) (upd H p (.dK []))):tDNew σ H Q:=q
end
end L2
namespace L2
open PySem PySem.Spec PyProof.Rows
variable {elts:List Expr}{kk:Nat}{tpos:Pos}{P:Program}{tl:TE}{w:World}
theorem kv_get:∀ {kvs:List (Key × V)} {vs:List (Key × Value)},KV kvs vs->∀ {i:Nat} {k:Key} {x:V},kvs[i]? = some (k,x)->∃ v,vs[i]? = some (k,v)/\a6j x v:=by
 intro kvs vs r
 induction r with
 | nil=>intro i k x h; simp at h
 | @cons p q ps qs h t ih=>
  intro i k x e
  cases i with
  | zero=>
   obtain ⟨h1,h2⟩:=h;have e':p=(k,x):=by simpa using e
   subst e';exact ⟨q.2,by rw [List.getElem?_cons_zero]; cases q; cases h1; rfl,h2⟩
  | succ i=>
   obtain ⟨v,e1,e2⟩:=ih (by simpa using e);exact ⟨v,by simpa using e1,e2⟩
theorem key_rel {k:Key}{u:Value}(h:(a2p P w).is k u=true):a6j (kV k) u:=by
 rcases a4q (show keyIs k u=true from h) with ⟨i,t,rfl,rfl⟩ | ⟨x,t,rfl,rfl⟩
 ·exact ⟨t,rfl⟩
 ·exact ⟨t,rfl⟩
section
variable {X:Cx}{pins:List (Addr × Obj)}{σ:St}{H:Hp}{s:Shared}{a:Addr}{kvs:List (Key × V)}{o:Obj}
theorem Inv.freeze (I:Inv X pins σ H s)(e:H a=some (.dK kvs))(ho:s.heap.get? a=some o):Inv X pins σ (upd H a (.frz o (.dK kvs))) s:=by
 have x:a6c X.prog X.w H s.heap a (.dK kvs):=I.hok a _ e;exact I.write (x:=a) (e:=a) (t':=s.toks) (h':=s.heap) (by rw [e]; exact True.intro) (.inl rfl) (fun b u _ q=>q) ⟨o,ho⟩ ⟨ho,x⟩
theorem Inv.thaw (I:Inv X pins σ H s)(h0:∀ o u,X.H₀ a ≠ some (.frz o u))(e:H a=some (.frz o (.dK kvs))):Inv X pins σ (upd H a (.dK kvs)) s:=by
 have na:∀ {b:Addr},H b=none->b ≠ a:=fun {b} q z=>by subst z; rw [q] at e; cases e
 have x:s.heap.get? a=some o/\a6c X.prog X.w H s.heap a (.dK kvs):=I.hok a _ e;refine ⟨I.ok,I.os,I.bare,⟨I.base.keep,I.base.slot,fun b ob q n hx=>?_,I.base.there,fun b xs q=>?_,fun b ob u q=>?_,fun b ps q=>?_⟩,I.loc,I.cell,?_,fun y c q=>?_,fun p hp=>?_,fun b u q=>?_,I.len⟩
 ·have:=I.base.free b ob q n hx;rw [a0q (na this)]; exact this
 ·have h1:=I.base.tups b xs q;have:b ≠ a:=fun z=>by subst z; rw [h1] at e; cases e
  rw [a0q this]; exact h1
 ·have h1:=I.base.frzs b ob u q;have:b ≠ a:=fun z=>by subst z; exact h0 _ _ q
  rw [a0q this]; exact h1
 ·obtain ⟨more,h1⟩:=I.base.tbls b ps q;have:b ≠ a:=fun z=>by subst z; rw [h1] at e; cases e
  exact ⟨more,by rw [a0q this]; exact h1⟩
 ·rw [a0q (na I.free)]; exact I.free
 ·rw [a0q (na (I.freeC y c q))]; exact I.freeC y c q
 ·obtain ⟨h1,h2,h3⟩:=I.pin p hp;exact ⟨h1,by rw [a0q (na h2)]; exact h2,h3⟩
 ·by_cases hb:b=a
  ·subst hb;rw [a0c] at q; cases q;exact x.2
  ·rw [a0q hb] at q;exact (I.hok b u q).stay (fun c v _ r=>r) (fun c r=>by rw [a0q (fun z=>by subst z; rw [r] at e; cases e)]; exact r) fun c xs r=>by rw [a0q (fun z=>by subst z; rw [r] at e; cases e)]; exact r
end
def Itd (a:Addr)(o:Obj)(kvs:List (Key × V)):It:=
 ⟨fun i H=>H a=some (.frz o (.dK kvs))/\i < kvs.length,fun i H x H'=>∃ T k v,H T=none/\x=.ref T/\kvs[i]? = some (k,v)/\H' = upd H T (.tup [kV k,v]),fun i H=>H a=some (.frz o (.dK kvs))/\kvs.length <= i⟩
theorem d5n {K:PySem.W.Frag}(a it:Addr)(o:Obj)(kvs:List (Key × V)){es:Array DictEntry}{ep:Nat}(hep:o.data=.dict es ep) :
  Turn P w K (.Tuple elts kk tpos) (Itd a o kvs) [it] it (fun i h=>(∃ ok ov,IsItemIter h it a i kvs.length ep ok ov)/\i <= kvs.length) where
 mem:=by simp
 obj:=fun i h st b hb=>by
  have e:b=it:=by simpa using hb
  subst e;obtain ⟨⟨ok,ov,q⟩,_⟩:=st
  exact ⟨_,q,fun v z=>by
   have z':Data.fields _=Data.cell v:=z
   cases z'⟩
 keep:=fun i h h' st k=>by
  obtain ⟨⟨ok,ov,q⟩,l⟩:=st;exact ⟨⟨ok,ov,k it (by simp) _ q⟩,l⟩
 item:=by
  intro X hP hw hK hc i pins s σ H E I hf st hg;subst hP hw hK;obtain ⟨hz,hi⟩:=hg;obtain ⟨f0,f1,f2,f3,f4,f5⟩:=hf it (by simp);obtain ⟨⟨ok,ov,hit⟩,_⟩:=st;obtain ⟨go,_,_,vs,rel,o',es',ep',g',ex,hd',r'⟩:=(show a6c X.prog X.w H s.heap a (.frz o (.dK kvs)) from I.hok a _ hz);rw [go] at g'; cases g';rw [hep] at hd'; cases hd';have hm:s.heap.DictAt (a2p X.prog X.w) a vs ep:=⟨o,es,go,ex,hep,r'⟩;have hl:vs.length=kvs.length:=rel.length.symm;obtain ⟨k,x,hx⟩:∃ k x,kvs[i]? = some (k,x):=⟨_,_,List.getElem?_eq_getElem hi⟩;obtain ⟨v,hv,rv⟩:=kv_get rel hx;rw [<- hl] at hit;refine wpAny_pyNext_items_item (knd:=a2p X.prog X.w) hit hm hv fun key h' hkey hout htup hsz hkeep=>⟨_,rfl,wpAny_letOwnedTupleGo_items hout fun h2 hit2 hsb=>?_⟩;have hT:H s.heap.objs.size=none:=I.hok.fresh (Nat.le_refl _);have hil:it ≠ s.heap.objs.size:=Nat.ne_of_lt (Heap.lt_size hit);have kept:∀ b o,b ≠ it->s.heap.get? b=some o->h2.get? b=some o:=fun b o hb q=>hsb.extBut b o hb (hkeep b o hb q);have eT:h2.get? s.heap.objs.size=some { cls:=.type "tuple",data:=.seq #[key,v] }:=hsb.extBut _ _ (Ne.symm hil) htup;have ntr:∀ b u,H b=some u->b ≠ it:=fun b u q z=>by rw [z,f0] at q; cases q
  have bT:∀ b o,s.heap.get? b=some o->b ≠ s.heap.objs.size:=fun b o q=>Nat.ne_of_lt (Heap.lt_size q);have nit:∀ b,b ∉ [it]->b ≠ it:=fun b hb z=>hb (by simp [z])
  have un:Un (frs X.stack) [it] H (upd H s.heap.objs.size (.tup [kV k,x])) s.heap h2:=
   ⟨fun b o q _ _ n3=>kept b o (nit b n3) q,fun b o q _ _ n3=>⟨o.slots,kept b o (nit b n3) q⟩,fun b o q n _=>by rw [a0q (bT b o q)]; exact n,fun b o q n3=>⟨o,kept b o (nit b n3) q⟩,
    fun b xs q=>by rw [a0q (a0n q hT)]; exact q,fun b o v q=>by rw [a0q (a0n q hT)]; exact q,fun b ps q=>⟨#[],by rw [a0q (a0n q hT),q]; simp⟩⟩
  have hok:HOk X.prog X.w (upd H s.heap.objs.size (.tup [kV k,x])) h2:=fun b u q=>by
   by_cases hb:b=s.heap.objs.size
   ·subst hb;rw [a0c] at q; cases q;exact ⟨Nat.le_of_lt (a6d (show (2:Nat) <= 1000 by decide)),[key,v],.cons (key_rel hkey) (.cons rv .nil),_,eT,rfl,_,rfl⟩
   ·rw [a0q hb] at q;refine (I.hok b u q).stay (fun c' v' hc2 q'=>?_) (fun c' q'=>by rw [a0q (a0n q' hT)]; exact q') fun c' xs q'=>by rw [a0q (a0n q' hT)]; exact q'
    rcases hc2 with r | r
    ·subst r; exact kept _ _ (ntr _ _ q) q'
    ·exact kept _ _ (ntr _ _ r) q'
  refine ⟨.ref s.heap.objs.size,_,I.call' (s':={ s with heap:=h2 }) rfl un hok I.bare (fun b hb=>?_),rfl,⟨_,k,x,hT,rfl,hx,rfl⟩,⟨⟨_,_,by rw [<- hl]; exact hit2⟩,hi⟩,fun b hb=>?_⟩
  ·have e:b=it:=by simpa using hb
   subst e;exact ⟨f3,f1,f4,f5⟩
  ·have e:b=it:=by simpa using hb
   subst e;rw [a0q hil]; exact f0
 done:=by
  intro X hP hw hK hc i pins s σ H E I hf st hg;subst hP hw hK;obtain ⟨hz,hi⟩:=hg;obtain ⟨f0,f1,f2,f3,f4,f5⟩:=hf it (by simp);obtain ⟨⟨ok,ov,hit⟩,_⟩:=st;obtain ⟨go,_,_,vs,rel,o',es',ep',g',ex,hd',r'⟩:=(show a6c X.prog X.w H s.heap a (.frz o (.dK kvs)) from I.hok a _ hz);rw [go] at g'; cases g';rw [hep] at hd'; cases hd';have hm:s.heap.DictAt (a2p X.prog X.w) a vs ep:=⟨o,es,go,ex,hep,r'⟩;have hl:vs.length=kvs.length:=rel.length.symm;rw [<- hl] at hit;exact wpAny_pyNext_items_end (knd:=a2p X.prog X.w) (I.ok.hd hc) hit hm (List.getElem?_eq_none (by omega)) fun h' eb=>⟨rfl,I.turned (t':=s.toks) (fun b o hb e=>eb b o (by simpa using hb) e) f0 f1 f3 f4 f5⟩
 self:=fun _ _ _ _ _ st h=>by
  obtain ⟨⟨ok,ov,q⟩,_⟩:=st;exact PySem.W.kcp_self q h
section
variable {X:Cx}
def iItems (tl:TE):TI:=fun σ H R=>tl σ H fun x H1=>∃ a kvs,x=.ref a/\((H1 a=some (.dK kvs)/\∀ o,R (Itd a o kvs) (upd H1 a (.frz o (.dK kvs))))\/∃ o,H1 a=some (.frz o (.dK kvs))/\R (Itd a o kvs) H1)
theorem b9k {l:Expr}{apos cpos:Pos}(hl:PE X l tl)(hbase:attributeBase l "items" X.env (eval l X.env) = eval l X.env:=by rfl)(hline:(apos.endLine == cpos.line) = true:=by rfl) :
  PI X (.Tuple elts kk tpos) (.Call (.Attribute l "items" apos) [] [] cpos) (iItems tl):=by
 intro pins s σ H R I h;refine wpAny_Call_method0_late hbase hline (thn (hl pins s σ H _ I h) fun v s1 ⟨x,H1,I1,r1,q1⟩=>?_);obtain ⟨a,kvs,rfl,q⟩:=q1;cases r1
 have rd:Rd H1 a (.dK kvs):=by
  rcases q with ⟨e,_⟩ | ⟨o,e,_⟩
  ·exact .inl e
  ·exact .inr ⟨o,e⟩
 obtain ⟨z,hsy,vs,rel,dd⟩:=d2q I1.hok rd;obtain ⟨o,es,ep,go,ex,hd,r'⟩:=id dd;refine ⟨"dict","dict.items",PySem.F.plainAttrs_dict,PySem.F.slot_dict_items,PySem.F.type_dict_items,⟨o,go,ex.1⟩,fun b e=>by cases e; exact ⟨o,go,ex.2.1⟩,Calls.callWith_builtin rfl (PySem.evalArgs_none ?_)⟩;refine call_meetsIn PySem.F.slot_dict_items dd.typeIs PySem.F.entry_dict_items (PySem.F.args_dict_items_1 _) (meets_dict_items (a2p X.prog X.w) a hsy) ⟨⟨vs,dd⟩,?_⟩;have I2:Inv X pins σ H1 { s1 with heap:=s1.heap.push { cls:=.type "dict_items",data:=.fields #[.ref a] } }:=I1.kept (t':=s1.toks) fun b ob e=>Heap.get?_push_of_some _ e;have hm:s1.heap.DictAt (a2p X.prog X.w) a vs ep:=⟨o,es,go,ex,hd,r'⟩;refine wpAny_pyIter_items (knd:=a2p X.prog X.w) (d:=a) (kvs:=vs) (ep:=ep) ⟨_,Heap.get?_push_size _ rfl,rfl,rfl⟩ (hm.push _) ?_;dsimp only;generalize hG:s1.heap.push { cls:=.type "dict_items",data:=.fields #[.ref a] } = G at I2 ⊢;have goG:G.get? a=some o:=by rw [<- hG]; exact Heap.get?_push_of_some _ go
 have I3:∀ H2,Inv X pins σ H2 { s1 with heap:=G }->Inv X pins σ H2 { s1 with heap:=G.push { cls:=.type "dict_itemiterator",data:=.fields #[.none,.bool false,.ref a,.int 0 0,.int vs.length 0,.int ep 0,.none,.none] } }:=fun H2 J=>J.kept (t':=s1.toks) fun b ob e=>Heap.get?_push_of_some _ e;have hln:vs.length=kvs.length:=rel.length.symm
 have st:∀ i,i=0->(∃ ok ov,IsItemIter (G.push { cls:=.type "dict_itemiterator",data:=.fields #[.none,.bool false,.ref a,.int 0 0,.int vs.length 0,.int ep 0,.none,.none] }) G.objs.size a i kvs.length ep ok ov)/\i <= kvs.length:=fun i hi=>by
  subst hi;refine ⟨⟨.none,.none,?_⟩,Nat.zero_le _⟩;rw [<- hln];exact Heap.get?_push_size _ rfl
 rcases q with ⟨e,q⟩ | ⟨o2,e,q⟩
 ·have J:=I2.freeze e goG;refine ⟨G.objs.size,[G.objs.size],_,_,_,rfl,I3 _ J,d5n a _ o kvs hd,st 0 rfl,fun b hb=>?_,q o⟩;have e:b=G.objs.size:=by simpa using hb
  subst e;exact J.fpOk (Nat.le_refl _) (J.hok.fresh (Nat.le_refl _))
 ·have x:s1.heap.get? a=some o2:=(show s1.heap.get? a=some o2/\_ from I1.hok a _ e).1;rw [go] at x; cases x;refine ⟨G.objs.size,[G.objs.size],_,_,_,rfl,I3 _ I2,d5n a _ o kvs hd,st 0 rfl,fun b hb=>?_,q⟩;have e:b=G.objs.size:=by simpa using hb
  subst e;exact I2.fpOk (Nat.le_refl _) (I2.hok.fresh (Nat.le_refl _))
def c4b.thaw (a:Addr)(kvs:List (Key × V))(D:c4b):c4b:=
 ⟨fun σ H=>∃ o,H a=some (.frz o (.dK kvs))/\D.nx σ (upd H a (.dK kvs)),fun v H=>∃ o,H a=some (.frz o (.dK kvs))/\D.rt v (upd H a (.dK kvs)),
  fun σ H=>∃ o,H a=some (.frz o (.dK kvs))/\D.bk σ (upd H a (.dK kvs)),fun σ H=>∃ o,H a=some (.frz o (.dK kvs))/\D.ct σ (upd H a (.dK kvs))⟩
def tThaw (t:TS):TS:=fun D σ H=>t D σ H\/∃ a kvs,H a=some (.dK kvs)/\t (D.thaw a kvs) σ H
theorem c4v {st:Stmt}{t:TS}(h:PS X st t):PS X st (tThaw t):=by
 intro pins s σ H D I q
 rcases q with q | ⟨a,kvs,e,q⟩
 ·exact h pins s σ H D I q
 have h0:∀ o u,X.H₀ a ≠ some (.frz o u):=fun o u z=>by
  have:=I.base.frzs a o u z;rw [e] at this; cases this
 refine thn (h pins s σ H _ I q) fun f s1 q1=>?_
 cases f with
 | next=>obtain ⟨σ1,H1,I1,o,e1,q1⟩:=q1; exact ⟨σ1,_,I1.thaw h0 e1,q1⟩
 | brk=>obtain ⟨σ1,H1,I1,o,e1,q1⟩:=q1; exact ⟨σ1,_,I1.thaw h0 e1,q1⟩
 | cont=>obtain ⟨σ1,H1,I1,o,e1,q1⟩:=q1; exact ⟨σ1,_,I1.thaw h0 e1,q1⟩
 | ret u=>obtain ⟨v,σ1,H1,I1,r1,o,e1,q1⟩:=q1; exact ⟨v,σ1,_,I1.thaw h0 e1,r1,q1⟩
end
theorem a7q {g:TG}{tb:TS}{D:c4b}{σ:St}{H:Hp}{a:Addr}{kvs:List (Key × V)}(e:∀ P:V->Hp->Prop,P (.ref a) H->tl σ H P)(h:H a=some (.dK kvs))(Pv:Obj->Nat->St->Hp->Prop)
  (h0:∀ o,Pv o 0 σ (upd H a (.frz o (.dK kvs)))) (hk:∀ o i σ H,Pv o i σ H->H a=some (.frz o (.dK kvs)))
  (hs:∀ o i k v σ H p,kvs[i]? = some (k,v)->Pv o i σ H->H p=none->g (.ref p) σ (upd H p (.tup [kV k,v])) fun σ2 H2=>tb { D.thaw a kvs with nx:=Pv o (i + 1),ct:=Pv o (i + 1),bk:=(D.thaw a kvs).nx } σ2 H2)
  (hd:∀ o σ H,Pv o kvs.length σ H->D.nx σ (upd H a (.dK kvs))):tThaw (tFor (iItems tl) g tb) D σ H:=by
 refine .inr ⟨a,kvs,h,e _ ⟨a,kvs,rfl,.inl ⟨h,fun o=>⟨fun i m σ H=>m=kvs.length - i/\i <= kvs.length/\Pv o i σ H,⟨kvs.length,by simp,Nat.zero_le _,h0 o⟩,?_⟩⟩⟩⟩;rintro i m σ H ⟨rfl,hi,p⟩
 by_cases hlt:i < kvs.length
 ·refine .inr ⟨⟨hk o i σ H p,hlt⟩,Pv o (i + 1),fun σ' H' p'=>⟨kvs.length - (i + 1),by omega,rfl,hlt,p'⟩,fun x H' y=>?_⟩;obtain ⟨A,k,v,hA,rfl,hx,rfl⟩:=y;exact hs o i k v σ H A hx p hA
 ·have e:i=kvs.length:=by omega
  subst e;exact .inl ⟨⟨hk o _ σ H p,Nat.le_refl _⟩,o,hk o _ σ H p,hd o σ H p⟩
end L2
set_option maxHeartbeats 1000000
namespace L2
open PySem PySem.Spec PyProof.Rows
open PySem.SeqAt (EqAt)
section
variable {prog:Program}{w:World}{A:Around}{E:Value->Shared->Prop}{s:Shared}{a b:Addr}{kvs kvs2:List (Key × Value)}{nm:String}
theorem samePairs_ok (hsa:(a == sysModules) = false)(hsb:(b == sysModules) = false)(h1:s.heap.DictOf (a2p prog w) a kvs)(h2:s.heap.DictOf (a2p prog w) b kvs2)(e:Key->Bool)
  (he:∀ k v v2,(k,v) ∈ kvs->valueAt kvs2 k=some v2->EqAt A s v v2 (e k)) {Q:Bool->Shared->Prop} (h:Q (decide (kvs.length=kvs2.length) && kvs.all fun p=>(valueAt kvs2 p.1).isSome && e p.1) s) :
  wpAny (model prog w) A (Builtin.Dict.samePairs nm a b) Q E s:=by
 obtain ⟨o1,es1,ep1,g1,x1,d1,k1,p1,n1⟩:=id h1;obtain ⟨o2,es2,ep2,g2,x2,d2,k2,p2,n2⟩:=id h2;have l1:es1.size=kvs.length:=by rw [<- p1.length]; simp
 have l2:es2.size=kvs2.length:=by rw [<- p2.length]; simp
 unfold Builtin.Dict.samePairs Builtin.Dict.showsAll;rw [if_neg (by rw [hsa]; exact Bool.false_ne_true),if_neg (by rw [hsb]; exact Bool.false_ne_true)];refine wpAny_bind (wpAny_pure (wpAny_bind (wpAny_pure ?_)));refine wpAny_bind (wpAny_dictEntries g1 d1 ?_);refine wpAny_bind (wpAny_dictEntries g2 d2 ?_)
 by_cases hsz:es1.size=es2.size
 case neg=>
  rw [if_pos (by simpa using hsz)];rw [decide_eq_false (by rw [<- l1,<- l2]; exact hsz),Bool.false_and] at h;exact wpAny_bind (wpAny_rule (wpAny_pure h))
 case pos=>
  rw [if_neg (by simpa using hsz)];rw [decide_eq_true (by rw [<- l1,<- l2]; exact hsz),Bool.true_and] at h;refine wpAny_bind (wpAny_dictEpoch g1 d1 ?_);refine wpAny_bind ?_;rw [Std.Legacy.Range.forIn_eq_forIn_range'];simp only [Std.Legacy.Range.size,Nat.sub_zero,Nat.add_sub_cancel,Nat.div_one]
  refine wpAny_forIn_list _
   (fun b6r r s'=>∃ i,s' = s/\b6r=List.range' i (es1.size - i)/\i <= es1.size/\r=(none,())/\(kvs.take i).all (fun p=>(valueAt kvs2 p.1).isSome && e p.1) = true)
   _ ?_ ?_ _ _ ⟨0,rfl,by simp,Nat.zero_le _,rfl,by simp⟩
  ·rintro x b6r _ _ ⟨i,rfl,hr,hi,rfl,hall⟩
   have hlt:i < es1.size:=by
    rcases Nat.lt_or_ge i es1.size with h | h
    ·exact h
    ·rw [Nat.sub_eq_zero_of_le h] at hr; simp at hr
   obtain ⟨rfl,hrest⟩:x=i/\b6r=List.range' (i + 1) (es1.size - (i + 1)):=by
    have e:es1.size - i=(es1.size - (i + 1)) + 1:=by omega
    rw [e,List.range'_succ] at hr
    injection hr with h1 h2
    exact ⟨h1,h2⟩
   refine wpAny_bind (wpAny_dictEntries g1 d1 ?_);rw [Array.getElem?_eq_getElem hlt];obtain ⟨⟨k,v⟩,hkv⟩:∃ kv,kvs[x]? = some kv:=⟨kvs[x]'(by rw [<- l1]; exact hlt),List.getElem?_eq_getElem _⟩;obtain ⟨hkey,hval⟩:=p1.get? (e:=es1[x]) (by simp [hlt]) hkv;obtain ⟨k',hkey',hhash⟩:=k1 es1[x] (Array.getElem_mem hlt);obtain rfl:k' = k:=(a2p prog w).inj _ _ _ hkey' hkey;have hmem:(k',v) ∈ kvs:=List.mem_of_getElem? hkv
   have step:∀ b:Bool,b=((valueAt kvs2 k').isSome && e k')->(kvs.take (x + 1)).all (fun p=>(valueAt kvs2 p.1).isSome && e p.1) = b:=fun b hb=>by
    rw [Tw.d6j hkv,List.all_append,hall,Bool.true_and,hb];simp
   have whole:(kvs.take (x + 1)).all (fun p=>(valueAt kvs2 p.1).isSome && e p.1) = false->kvs.all (fun p=>(valueAt kvs2 p.1).isSome && e p.1) = false:=fun hf=>by
    rw [<- List.take_append_drop (x + 1) kvs,List.all_append,hf,Bool.false_and]
   have mf:valueAt kvs2 k' = findBy (a2p prog w).is es2 k':=by
    obtain ⟨o3,es3,ep3,g3,_,d3,_,f3⟩:=h2.mapOf;rw [g2] at g3; cases g3;rw [d2] at d3; cases d3;exact (f3 k').symm
   refine wpAny_bind (wpAny_holding ?_);rw [hhash,hval];refine wpAny_bind (wpAny_dictFind_of hkey g2 d2 k2 ?_);rw [findBy_of_findIdx?] at mf
   cases hf:es2.findIdx? (fun e=>(a2p prog w).is k' e.key) with
   | none=>
    rw [hf] at mf;refine wpAny_pure ?_;rw [if_pos (by rfl)];refine wpAny_pure (wpAny_pure ?_);rw [whole (step false (by rw [mf]; rfl))] at h;exact h
   | some j=>
    obtain ⟨hj,_,_⟩:=Array.findIdx?_eq_some_iff_getElem.mp hf;rw [hf] at mf;have mf':valueAt kvs2 k' = some es2[j].val:=by rw [mf]; simp [hj]
    refine wpAny_bind (wpAny_dictEntries g2 d2 ?_);rw [Array.getElem?_eq_getElem hj];refine wpAny_holding (he k' v _ hmem mf' _ _ _ _ ?_)
    cases hek:e k' with
    | false=>
     rw [if_pos (by rfl)];refine wpAny_pure (wpAny_pure ?_);rw [whole (step false (by rw [hek,Bool.and_false]))] at h;exact h
    | true=>
     rw [if_neg (by decide)];refine wpAny_bind (wpAny_dictEpoch g1 d1 ?_);rw [if_neg (by simp)];exact wpAny_pure ⟨x + 1,rfl,hrest,hlt,rfl,step true (by rw [hek,mf']; rfl)⟩
  ·rintro _ _ ⟨i,rfl,hr,hi,rfl,hall⟩
   have hin:i=es1.size:=by
    rcases Nat.lt_or_ge i es1.size with h | h
    ·have e:es1.size - i=(es1.size - (i + 1)) + 1:=by omega
     rw [e,List.range'_succ] at hr; exact nomatch hr
    ·exact Nat.le_antisymm hi h
   rw [hin,l1,List.take_length] at hall;rw [hall] at h;exact wpAny_pure h
end
theorem kv_mem:∀ {kvs:List (Key × V)} {vs:List (Key × Value)},KV kvs vs->∀ {k:Key} {v:Value},(k,v) ∈ vs->∃ x,(k,x) ∈ kvs/\a6j x v:=by
 intro kvs vs r
 induction r with
 | nil=>intro k v h; cases h
 | @cons p q ps qs h t ih=>
  intro k v m
  rcases List.mem_cons.mp m with e | m
  ·subst e;obtain ⟨h1,h2⟩:=h;obtain ⟨pk,px⟩:=p;cases (show pk=k from h1);exact ⟨px,List.mem_cons_self ..,h2⟩
  ·obtain ⟨x,m',rx⟩:=ih m;exact ⟨x,List.mem_cons_of_mem _ m',rx⟩
theorem valV_mem {kvs:List (Key × V)}{k:Key}{x:V}(h:d3c kvs k=some x):(k,x) ∈ kvs:=by
 unfold d3c at h;obtain ⟨p,hp,e⟩:=Option.map_eq_some_iff.mp h;have m:=List.mem_of_find?_eq_some hp
 have ek:p.1=k:=by
  have z:=List.find?_some hp;exact of_decide_eq_true z
 obtain ⟨pk,px⟩:=p;cases (show pk=k from ek);cases (show px=x from e);exact m
def d8p (d:PyData):Prop:=d.canLay0=true/\d.depth <= 8
def d0e (kvs kvs2:List (Key × V))(f g:Key->PyData):Bool:=decide (kvs.length=kvs2.length) && kvs.all fun p=>(d3c kvs2 p.1).isSome && PyData.eqv (f p.1) (g p.1)
def rEqM (neg:Bool)(K:PySem.W.Frag):R2:=fun x y H Q=>∃ a b kvs kvs2 f g,x=.ref a/\y=.ref b/\Rd H a (.dK kvs)/\Rd H b (.dK kvs2)/\(∀ k x,(k,x) ∈ kvs->DV K H x (f k)/\d8p (f k))/\(∀ k x,(k,x) ∈ kvs2->DV K H x (g k)/\d8p (g k))/\
 Q (.bl (d0e kvs kvs2 f g ^^ neg)) H
section
variable {X:Cx}{pins:List (Addr × Obj)}{σ:St}{H:Hp}{s:Shared}{a b:Addr}{kvs kvs2:List (Key × V)}{f g:Key->PyData}
theorem d5y {A:Around}{E:Value->Shared->Prop}{nm:String}{Q:Bool->Shared->Prop}(hu:A.units + 8 < cLine)(I:Inv X pins σ H s)(ha:Rd H a (.dK kvs))(hb:Rd H b (.dK kvs2))(hf:∀ k x,(k,x) ∈ kvs->DV X.K H x (f k)/\d8p (f k))
  (hg:∀ k x,(k,x) ∈ kvs2->DV X.K H x (g k)/\d8p (g k)) (h:Q (d0e kvs kvs2 f g) s):wpAny (model X.prog X.w) A (Builtin.Dict.samePairs nm a b) Q E s:=by
 obtain ⟨_,s1,vs,r1,d1⟩:=d2q I.hok ha;obtain ⟨_,s2,vs2,r2,d2⟩:=d2q I.hok hb;refine samePairs_ok s1 s2 d1 d2 (fun k=>PyData.eqv (f k) (g k)) (fun k v v2 m e=>?_) ?_
 ·obtain ⟨x,mx,rx⟩:=kv_mem r1 m;have q:=r2.val k;rw [e] at q
  cases ev:d3c kvs2 k with
  | none=>rw [ev] at q; exact (show False from q).elim
  | some x2=>
   rw [ev] at q;have rx2:a6j x2 v2:=q;obtain ⟨dx,sx⟩:=hf k x mx;obtain ⟨dx2,sx2⟩:=hg k x2 (valV_mem ev);obtain ⟨as,ra⟩:=dx.reads I rx;obtain ⟨bs,rb⟩:=dx2.reads I rx2;exact SeqAt.eqAt_reads _ _ _ _ _ _ _ _ ra rb sx.1 sx2.1 (by have h8:=sx.2; have hm:=Nat.min_le_left (f k).depth (g k).depth; omega)
 ·have e1:vs.length=kvs.length:=r1.length.symm;have e2:vs2.length=kvs2.length:=r2.length.symm
  have e3:(vs.all fun p=>(valueAt vs2 p.1).isSome && PyData.eqv (f p.1) (g p.1)) = kvs.all fun p=>(d3c kvs2 p.1).isSome && PyData.eqv (f p.1) (g p.1):=by
   have hk:∀ k,(valueAt vs2 k).isSome=(d3c kvs2 k).isSome:=fun k=>((r2.val k).isSome_eq).symm
   have a1:(vs.all fun p=>(valueAt vs2 p.1).isSome && PyData.eqv (f p.1) (g p.1)) = (vs.map (·.1)).all fun k=>(d3c kvs2 k).isSome && PyData.eqv (f k) (g k):=by
    rw [List.all_map]
    congr 1
    funext p
    simp only [Function.comp_apply,hk]
   have a2:(kvs.all fun p=>(d3c kvs2 p.1).isSome && PyData.eqv (f p.1) (g p.1)) = (kvs.map (·.1)).all fun k=>(d3c kvs2 k).isSome && PyData.eqv (f k) (g k):=by
    rw [List.all_map];rfl
   rw [a1,a2,r1.keys]
  rw [e1,e2,e3];exact h
theorem op_eqM (hu:X.A.units + 64 < cLine):OpR X (compareOp .Eq) (rEqM false X.K):=by
 intro pins s σ H x y v u Q I rx ry h;obtain ⟨a,b,kvs,kvs2,f,g,rfl,rfl,ha,hb,hf,hg,q⟩:=h;cases rx;cases ry;obtain ⟨_,s1,vs,r1,d1⟩:=d2q I.hok ha;obtain ⟨_,s2,vs2,r2,d2⟩:=d2q I.hok hb;show wpAny _ _ (richCompare .Eq (.ref a) (.ref b)) _ _ s;refine wpAny_richCompare_same_room d1.typeIs d2.typeIs PySem.F.slot_dict_eq (wpAny_call_entry PySem.F.slot_dict_eq d1.typeIs PySem.F.entry_dict_eq ?_ (PySem.F.args_dict_eq_2 _ _)) (by omega);show wpAny _ _ (Builtin.Dict.dictSlotArgs "__eq__" ⟨[.ref a,.ref b],[]⟩ >>= _) _ _ s;refine wpAny_bind ?_;unfold Builtin.Dict.dictSlotArgs;refine wpAny_bind (wpAny_notOrdered_dict d1.typeIs ?_);show wpAny _ _ (pure ((Value.ref a,Value.ref b):Value × Value)) _ _ s;refine wpAny_pure ?_;refine wpAny_bind (wpAny_isInstance d2.typeIs PySem.F.sub_dict_dict ?_);rw [if_neg (by decide)];refine wpAny_bind (wpAny_pure (wpAny_bind (wpAny_pure ?_)));refine wpAny_bind (d5y (by rw [units_in1]; omega) I ha hb hf hg ?_);refine wpAny_pure ?_;refine Exists.intro _ (And.intro rfl (And.intro (fun z=>nomatch z) ?_));refine ⟨.bl _,H,I,rfl,?_⟩;rw [Bool.xor_false] at q;have e:(d0e kvs kvs2 f g == true) = d0e kvs kvs2 f g:=by cases d0e kvs kvs2 f g <;> rfl
 rw [e];exact q
theorem op_neM (hu:X.A.units + 64 < cLine):OpR X (compareOp .NotEq) (rEqM true X.K):=by
 intro pins s σ H x y v u Q I rx ry h;obtain ⟨a,b,kvs,kvs2,f,g,rfl,rfl,ha,hb,hf,hg,q⟩:=h;cases rx;cases ry;obtain ⟨_,s1,vs,r1,d1⟩:=d2q I.hok ha;obtain ⟨_,s2,vs2,r2,d2⟩:=d2q I.hok hb;show wpAny _ _ (richCompare .NotEq (.ref a) (.ref b)) _ _ s;refine wpAny_richCompare_same_room d1.typeIs d2.typeIs PySem.F.slot_dict_ne (wpAny_call_entry PySem.F.slot_dict_ne d1.typeIs PySem.F.entry_dict_ne ?_ (PySem.F.args_dict_ne_2 _ _)) (by omega);show wpAny _ _ (Builtin.Dict.dictSlotArgs "__ne__" ⟨[.ref a,.ref b],[]⟩ >>= _) _ _ s;refine wpAny_bind ?_;unfold Builtin.Dict.dictSlotArgs;refine wpAny_bind (wpAny_notOrdered_dict d1.typeIs ?_);show wpAny _ _ (pure ((Value.ref a,Value.ref b):Value × Value)) _ _ s;refine wpAny_pure ?_;refine wpAny_bind (wpAny_isInstance d2.typeIs PySem.F.sub_dict_dict ?_);rw [if_neg (by decide)];refine wpAny_bind (wpAny_pure (wpAny_bind (wpAny_pure ?_)));refine wpAny_bind (d5y (by rw [units_in1]; omega) I ha hb hf hg ?_);refine wpAny_pure ?_;refine Exists.intro _ (And.intro rfl (And.intro (fun z=>nomatch z) ?_));refine ⟨.bl _,H,I,rfl,?_⟩;have e:(d0e kvs kvs2 f g == false) = (d0e kvs kvs2 f g ^^ true):=by cases d0e kvs kvs2 f g <;> rfl
 rw [e];exact q
end
end L2
namespace L2
open PySem PySem.Spec PyProof.Rows
section
variable {X:Cx}
def rDict:List V->Hp->VK->Prop:=fun xs H Q=>∃ a kvs,xs=[.ref a]/\Rd H a (.dK kvs)/\∀ p,H p=none->Q (.ref p) (upd H p (.dK kvs))
theorem d4r:b2t X (.type "dict") rDict:=by
 intro pins s σ H xs us Q I r h;obtain ⟨a,kvs,rfl,e,q⟩:=h;obtain ⟨u,rfl,ru⟩:=a6q.one r;cases (show u=Value.ref a from ru);exact d_copyOf I e fun p s' hp I'=>⟨.ref p,_,I',rfl,q p hp⟩
end
section
variable {K:PySem.W.Frag}{H:Hp}{Q:VK}{a b:Addr}{kvs kvs2:List (Key × V)}{σ:St}{td ty tx tv:TE}
theorem st_dict (h:H a=some (.dK kvs))(q:∀ p,H p=none->Q (.ref p) (upd H p (.dK kvs))):rDict [.ref a] H Q:=⟨a,kvs,rfl,.inl h,q⟩
abbrev atZ (kvs:List (Key × V))(i:Int):Option V:=d3c kvs (.inl i)
theorem dget_z {i:Int}(h:Rd H a (.dK kvs)):DGet H a (.int i) (atZ kvs i):=.inl ⟨kvs,.inl i,h,rfl,rfl⟩
theorem d5s {i:Int}{v:V}(h:H a=some (.dK kvs))(hl:kvs.length <= 1000):DPut H a (.int i) v (upd H a (.dK (d1s kvs (.inl i) v))):=.inl ⟨kvs,.inl i,h,rfl,a6d hl,rfl⟩
theorem st_dget2 (h:td σ H fun x H1=>∃ a,x=.ref a/\IsD H1 a/\ty σ H1 fun y H2=>tx σ H2 fun z H3=>∃ o,DGet H3 a y o/\Q (o.getD z) H3):tDGet2 td ty tx σ H Q:=h
theorem st_dput {D:c4b}(h:tv σ H fun v H1=>td σ H1 fun x H2=>ty σ H2 fun y H3=>∃ a H4,x=.ref a/\DPut H3 a y v H4/\D.nx σ H4):sDPut td ty tv D σ H:=h
theorem st_eqM {f g:Key->PyData}{neg:Bool}(ha:Rd H a (.dK kvs))(hb:Rd H b (.dK kvs2))(hf:∀ k x,(k,x) ∈ kvs->DV K H x (f k)/\d8p (f k))(hg:∀ k x,(k,x) ∈ kvs2->DV K H x (g k)/\d8p (g k))(q:Q (.bl (d0e kvs kvs2 f g ^^ neg)) H):rEqM neg K (.ref a) (.ref b) H Q:=
 ⟨a,b,kvs,kvs2,f,g,rfl,rfl,ha,hb,hf,hg,q⟩
end
def d7x (p:Int × Int):PyData:=.tuple ([p.1,p.2].map PyData.int)
theorem pair_flat (p:Int × Int):d8p (d7x p):=by
 have h:=c0x [p.1,p.2];refine ⟨SeqAt.canLay_of_shaped h,?_⟩;simp [d7x,PyData.depth,PySem.W.ke_depthAll,PyData.depthAll]
theorem pair_dv {K:PySem.W.Frag}{H:Hp}{a:Addr}{p:Int × Int}(h:SqT K H a [.int p.1,.int p.2]):DV K H (.ref a) (d7x p):=.tup h (c8f [p.1,p.2])
theorem pair_eqv (p q:Int × Int):PyData.eqv (d7x p) (d7x q) = decide (p=q):=by
 unfold d7x;rw [PyData.eqv,d7j];obtain ⟨a,b⟩:=p;obtain ⟨c,d⟩:=q;simp
end L2
namespace L2
open PySem PySem.Spec PyProof.Rows
variable {C a dx:Addr}{xs:Array (Int × Tok)}{H:Hp}{ns:List Int}{E:XK}
structure d6v (P:Program)(w:World)(K:PySem.W.Frag)(mg:Str->Option Value)(base:Heap)(CX:CXT)(k:Nat)(x:Str)(C:Addr)(ps:List Str)(sp:Sp):Prop where
 ex:∃ f fd,Mk K C f/\a2s P w K mg base CX k f fd ps sp/\c1u K fd ps []/\mg x=some (.ref C)
structure c0e (P:Program)(w:World)(K:PySem.W.Frag)(mg:Str->Option Value)(base:Heap)(CX:CXT)(k:Nat)(C:Addr)(m:Str)(ps:List Str)(sp:Sp):Prop where
 cl:Cls K C
 ex:∃ f fd,Meth K C m f/\a2s P w K mg base CX k f fd ps sp/\c1u K fd ps []
structure CMeth (K:PySem.W.Frag)(C:Addr)(m:Str)(f:Addr):Prop where
 g:PySem.W.specialIn K (.ref C) "__getattribute__" = some (some (.builtin "type.__getattribute__"))
 r:PySem.W.readsIn K C (.type "type") = true
 e:PySem.W.findCls K (.ref C) (.type "type") m=some (.val (.ref f))
 kp:PySem.W.keepIn K (.ref f) = true
structure CCal (P:Program)(w:World)(K:PySem.W.Frag)(mg:Str->Option Value)(base:Heap)(CX:CXT)(k:Nat)(x m:Str)(ps:List Str)(sp:Sp):Prop where
 ex:∃ C f fd,mg x=some (.ref C)/\CMeth K C m f/\a2s P w K mg base CX k f fd ps sp/\c1u K fd ps []
section
variable {X:Cx}{CX:CXT}{j k:Nat}{C:Addr}{ps:List Str}{sp:Sp}{E:XK}{x m:Str}{p pos apos:Pos}{e o:Expr}{es:List Expr}{ta:TE}{t:TA}
theorem c0d (c:d6v X.prog X.w X.K X.mg X.base CX k x C ps sp)(hr:b4y j X.A)(hx:b4r CX X E)(ha:PA X (e :: es) t)(hk:k + 1 <= j:=by decide)(hg:Gl X x:=by rfl)(hdb:(x == ("__debug__":Str)) = false:=by decide)
  (he:starEach (e :: es) X.env=(false,eval e X.env) :: starEach es X.env:=by rfl) (hpl:(backTo pos (starEach es X.env)).any (·.1) = false:=by rfl) :
  PE X (.Call (.Name x p) (e :: es) [] pos) (tMake C sp [] E t):=by
 obtain ⟨f,fd,M,F,b,m⟩:=c.ex;exact pe_make M F (hr.mono hk) hg m b .nil hx ha hdb he hpl
theorem pe_cm {pl:Sem Bool}(c:CCal X.prog X.w X.K X.mg X.base CX k x m ps sp)(hr:b4y j X.A)(hx:b4r CX X E)(ha:PA X (e :: es) t)(hk:k <= j:=by decide)(hg:Gl X x:=by rfl)(hdb:(x == ("__debug__":Str)) = false:=by decide)
  (hst:starEach (e :: es) X.env=(false,eval e X.env) :: starEach es X.env:=by rfl) (hpl:(backTo pos (starEach es X.env)).any (·.1) = false:=by rfl)
  (ht:eval (.Call (.Attribute (.Name x p) m apos) (e :: es) [] pos) X.env=(do
   let ov <- eval (.Name x p) X.env
   standAt apos.atName
   let (f,first) <- holding [ov] (getMethod ov m pl)
   callWith pos f first (backTo pos (starEach (e :: es) X.env)) (backToKw pos (keywordEach [] X.env))):=by rfl) :
  PE X (.Call (.Attribute (.Name x p) m apos) (e :: es) [] pos) (tCall sp [] E t):=by
 intro pins s σ H Q I h;obtain ⟨C,f,fd,hm,cm,F,b⟩:=c.ex;refine PySem.W.methodCall_KW (pl:=pl) (b7j I hg hm ?_ hdb) ht;refine PySem.W.method_cls I.kIn cm.g (PySem.W.cls_value I.kIn cm.r cm.e rfl ?_);refine PySem.W.callWith_K (first:=[]) (h₀:=X.base) I.ok.mod.kin cm.kp (thn (ha pos pins _ σ H _ (I.tok _) h) fun us s2 ⟨vs,H2,I2,r,q2⟩=>⟨I2.kIn,?_⟩) hst hpl;exact run_fn F (hr.mono hk) b .nil hx I2 r q2
def Tab (K:PySem.W.Frag)(a:Addr)(D:List (Str × Int)):Prop:=KTD.tabLook (KTD.datLooks fun b=>K.lookup b) (fun b=>K.lookup b) a (D.map fun p=>(p.1,KTD.Dat.flat (.int p.2))) = true
def GTab (K:PySem.W.Frag)(mg:Str->Option Value)(x:Str)(a:Addr)(D:List (Str × Int)):Prop:=mg x=some (.ref a)/\Tab K a D
theorem pe_gt {D:List (Str × Int)}(h:GTab X.K X.mg x a D)(hg:Gl X x:=by rfl)(hd:(x == ("__debug__":Str)) = false:=by decide):PE X (.Name x pos) (tC (.ref a)):=d8d hg h.1 rfl hd
def d7y (k:Str)(D:List (Str × Int)):Option Int:=KTD.datumAt k D
theorem tab_keys {k:Str}:∀ D:List (Str × Int),KTD.inKeys k (D.map fun p=>(p.1,KTD.Dat.flat (.int p.2))) = (KTD.datumAt k D).isSome:=by
 intro D;rw [<- KTD.isSome_datumAt]
 induction D with
 | nil=>rfl
 | cons p D ih=>
  rw [List.map_cons];unfold KTD.datumAt
  by_cases hk:k=p.1
  ·simp only [hk];rfl
  ·simp only [hk];exact ih
theorem tab_datum {k:Str}{d:KTD.Dat}:∀ D:List (Str × Int),KTD.datumAt k (D.map fun p=>(p.1,KTD.Dat.flat (.int p.2))) = some d->∃ i,KTD.datumAt k D=some i/\d=.flat (.int i):=by
 intro D
 induction D with
 | nil=>intro h; cases h
 | cons p D ih=>
  rw [List.map_cons];unfold KTD.datumAt
  by_cases hk:k=p.1
  ·simp only [hk];intro h;exact ⟨p.2,rfl,(Option.some.inj h).symm⟩
  ·simp only [hk];exact ih
def rInTab (K:PySem.W.Frag)(neg:Bool):R2:=fun x y H Q=>∃ k a D,x=.str k/\y=.ref a/\Tab K a D/\Q (.bl (neg != (d7y k D).isSome)) H
theorem op_notInTab:OpR X (compareOp .NotIn) (rInTab X.K true):=by
 intro pins s σ H x y v u Q I rx ry h;obtain ⟨k,a,D,rfl,rfl,hT,q⟩:=h;obtain ⟨t,rfl⟩:=rx;cases ry;refine KTD.notin_text ⟨PySem.W.kt_text_in I.kIn hT,fun _ _ z=>z⟩ ⟨.bl _,H,I.tok _,rfl,?_⟩;rw [tab_keys];have e:(true != (d7y k D).isSome) = !(KTD.datumAt k D).isSome:=by unfold d7y; cases (KTD.datumAt k D).isSome <;> rfl
 rw [e] at q;exact q
def rIxTab (K:PySem.W.Frag):R2:=fun x y H Q=>∃ k a D i,x=.ref a/\y=.str k/\Tab K a D/\d7y k D=some i/\Q (.int i) H
theorem plain_tab:∀ D:List (Str × Int),((D.map fun p=>(p.1,KTD.Dat.flat (.int p.2))).all fun p=>KTD.plain p.2) = true:=by
 intro D
 induction D with
 | nil=>rfl
 | cons p D ih=>rw [List.map_cons,List.all_cons,ih]; rfl
theorem ix_tab:IxR X (rIxTab X.K):=by
 intro value slice pins s σ H x y v u Q I rx ry h hs;obtain ⟨k,a,D,i,rfl,rfl,hT,hi,q⟩:=h;cases rx;obtain ⟨t,rfl⟩:=ry;have T:KTD.Here s.heap s.heap a (D.map fun p=>(p.1,KTD.Dat.flat (.int p.2))):=⟨PySem.W.kt_text_in I.kIn hT,fun _ _ z=>z⟩;refine subscriptTail_builtin_flat T.typeIs slot_dict_getitem.lookup ?_ hs;unfold getItem
 try with_reducible refine wpAny_holding ?_
 refine wpAny_bind (wpAny_sequenceKey T.typeIs (by decide) ?_)
 refine wpAny_bind (wpAny_callSpecial?_slot (name:=Str.ofString "__getitem__") T.typeIs slot_dict_getitem
  (wpAny_call_entry slot_dict_getitem T.typeIs entry_dict_getitem ?_ (args_dict_getitem _ _)))
 show wpAny _ _ (dictGet a (.str k t) >>= _) _ _ s;refine wpAny_bind (KTD.dictGet_text T (fun d v ha hv=>wpAny_pure ⟨v,rfl,wpAny_pure ⟨KTD.notRef_of_plain (KTD.plain_at (plain_tab D) ha) hv,?_⟩⟩) fun hn=>absurd hn (KTD.at_of_mem (by rw [tab_keys]; show (d7y k D).isSome=true; rw [hi]; rfl)));obtain ⟨i',e1,rfl⟩:=tab_datum D ha
 have e2:i' = i:=by
  have e3:KTD.datumAt k D=some i:=hi;rw [e3] at e1;exact (Option.some.inj e1).symm
 subst e2;have hv':PyProof.V.Flat v (.int i'):=hv;obtain ⟨t',rfl⟩:=hv'.int_inv;exact ⟨.int i',H,I.tok _,⟨_,rfl⟩,q⟩
end
theorem b4w:∀ {ns:List Int} {us:List Value},a6q (ns.map V.int) us->∃ xs:Array (Int × Tok),us.toArray=intItems xs/\xs.toList.map (·.1) = ns
 | [],[],_=>⟨#[],by simp [intItems],rfl⟩
 | n :: ns,u :: us,r=>by
  cases r with
  | cons r1 r2=>
   obtain ⟨t,rfl⟩:=r1;obtain ⟨xs,e1,e2⟩:=b4w r2;refine ⟨((n,t) :: xs.toList).toArray,?_,?_⟩
   ·have e3:us=(intItems xs).toList:=by rw [<- e1]
    rw [e3];simp [intItems]
   ·simp [e2]
def rBest (K:PySem.W.Frag)(le:Int->Int->Prop):List V->Hp->VK->Prop:=fun xs H Q=>∃ (p:Addr) (ns:List Int),xs=[.ref p]/\(SqL K H p (ns.map V.int)\/SqT K H p (ns.map V.int))/\0 < ns.length/\∀ M,M ∈ ns->(∀ a ∈ ns,le a M)->Q (.int M) H
section
variable {X:Cx}{s:Shared}{A:Around}{E:Value->Shared->Prop}
theorem c8c {pins:List (Addr × Obj)}{σ:St}{Q:VK}{num:Nat->Nat->Bool}{le:Int->Int->Prop}(I:Inv X pins σ H s)(ex:xs.toList.map (·.1) = ns)(hne:0 < ns.length)
  (hb:argBest num (xs.size - 1) <= xs.size - 1/\∀ j,j <= xs.size - 1->le (numAt xs j) (numAt xs (argBest num (xs.size - 1)))) (q:∀ M,M ∈ ns->(∀ a ∈ ns,le a M)->Q (.int M) H)
  {v:Value} {h':Heap} {tk:Nat} (hv:(intItems xs)[argBest num (xs.size - 1)]? = some v) (hk:∀ b o,s.heap.get? b=some o->h'.get? b=some o):EP X pins σ Q v { s with heap:=h',toks:=tk }:=by
 obtain ⟨t,rfl⟩:=intItems_at hv
 have hsz:0 < xs.size:=by
  rw [<- ex,List.length_map,Array.length_toList] at hne;exact hne
 refine ⟨.int _,H,I.kept hk,⟨_,rfl⟩,q _ ?_ fun a ha=>?_⟩
 ·rw [<- ex,numAt_eq]; exact getD_mem (by rw [List.length_map,Array.length_toList]; omega)
 ·rw [<- ex] at ha;obtain ⟨j,hj,rfl⟩:=mem_getD ha;rw [List.length_map,Array.length_toList] at hj;rw [<- numAt_eq]; exact hb.2 j (by omega)
theorem tup_kept {l:Addr}(hT:s.heap.IsTuple l (intItems xs)){h':Heap}(hk:∀ b o,b ∉ [s.heap.objs.size]->(s.heap.push { cls:=.type "tuple_iterator",data:=.fields #[.ref l,.int 0 0] }).get? b=some o->h'.get? b=some o) :
  ∀ b o,s.heap.get? b=some o->h'.get? b=some o:=fun b o e=>by
 refine hk b o (fun hm=>?_) (Heap.get?_push_of_some _ e)
 rcases List.mem_cons.mp hm with e1 | hm
 ·exact absurd (e1 ▸ Heap.lt_size e) (Nat.lt_irrefl _)
 ·cases hm
theorem c8s (ex:xs.toList.map (·.1) = ns)(hne:0 < ns.length):0 < xs.size:=by
 rw [<- ex,List.length_map,Array.length_toList] at hne;exact hne
theorem call_maxL (hc:X.calm=true):b2t X (.builtin "max") (rBest X.K fun a M=>a <= M):=by
 intro pins s σ H xs us Q I r h;obtain ⟨p,ns,rfl,hs,hne,q⟩:=h;obtain ⟨u,rfl,ru⟩:=vals1 r;cases ru
 rcases hs with hs | hs
 ·obtain ⟨its,ri,pl,_⟩:=I.list hs;obtain ⟨xs,e1,e2⟩:=b4w ri;have hl:s.heap.IsList p (intItems xs):=by rw [<- e1]; exact pl.isList
  exact max_intList (I.ok.hd hc) hl (c8s e2 hne) fun v h' tk hv hk=>c8c I e2 hne (argBest_gt (numAt xs) (xs.size - 1)) q hv hk
 ·obtain ⟨its,ri,pl,_⟩:=I.tuple hs;obtain ⟨xs,e1,e2⟩:=b4w ri;have hT:s.heap.IsTuple p (intItems xs):=by rw [<- e1]; exact pl
  have hlt:p < s.heap.objs.size:=by obtain ⟨_,e,_⟩:=hT; exact Heap.lt_size e
  refine call_max_walk (wpAny_pyIter_tuple hT ?_)
  refine ⟨_,[_,p],[_],_,_,_,_,rfl,Walks.tuple (A:=X.A.in1) (I.ok.hd hc) _ p (Nat.ne_of_lt hlt) (intItems xs),⟨⟨_,Heap.get?_push_size _ rfl,rfl,rfl⟩,hT.push _⟩,fun c hc'=>?_,
   by simpa [intItems] using c8s e2 hne,CmpOf.ints_gt (numAt xs) (fun _ _=>intItems_at),fun v h' tk hP hk=>?_⟩
  ·show c < (s.heap.push _).objs.size;rw [Heap.size_push]
   rcases List.mem_cons.mp hc' with rfl | hc'
   ·exact Nat.lt_succ_self _
   ·rcases List.mem_cons.mp hc' with rfl | hc'
    ·exact Nat.lt_succ_of_lt hlt
    ·cases hc'
  ·exact c8c I e2 hne (argBest_gt (numAt xs) (xs.size - 1)) q (by simpa [intItems] using hP) (tup_kept hT hk)
theorem call_minL (hc:X.calm=true):b2t X (.builtin "min") (rBest X.K fun a M=>M <= a):=by
 intro pins s σ H xs us Q I r h;obtain ⟨p,ns,rfl,hs,hne,q⟩:=h;obtain ⟨u,rfl,ru⟩:=vals1 r;cases ru
 rcases hs with hs | hs
 ·obtain ⟨its,ri,pl,_⟩:=I.list hs;obtain ⟨xs,e1,e2⟩:=b4w ri;have hl:s.heap.IsList p (intItems xs):=by rw [<- e1]; exact pl.isList
  exact min_intList (I.ok.hd hc) hl (c8s e2 hne) fun v h' tk hv hk=>c8c (le:=fun a M=>M <= a) I e2 hne (argBest_lt (numAt xs) (xs.size - 1)) q hv hk
 ·obtain ⟨its,ri,pl,_⟩:=I.tuple hs;obtain ⟨xs,e1,e2⟩:=b4w ri;have hT:s.heap.IsTuple p (intItems xs):=by rw [<- e1]; exact pl
  have hlt:p < s.heap.objs.size:=by obtain ⟨_,e,_⟩:=hT; exact Heap.lt_size e
  refine call_min_walk (wpAny_pyIter_tuple hT ?_)
  refine ⟨_,[_,p],[_],_,_,_,_,rfl,Walks.tuple (A:=X.A.in1) (I.ok.hd hc) _ p (Nat.ne_of_lt hlt) (intItems xs),⟨⟨_,Heap.get?_push_size _ rfl,rfl,rfl⟩,hT.push _⟩,fun c hc'=>?_,
   by simpa [intItems] using c8s e2 hne,CmpOf.ints_lt (numAt xs) (fun _ _=>intItems_at),fun v h' tk hP hk=>?_⟩
  ·show c < (s.heap.push _).objs.size;rw [Heap.size_push]
   rcases List.mem_cons.mp hc' with rfl | hc'
   ·exact Nat.lt_succ_self _
   ·rcases List.mem_cons.mp hc' with rfl | hc'
    ·exact Nat.lt_succ_of_lt hlt
    ·cases hc'
  ·exact c8c (le:=fun a M=>M <= a) I e2 hne (argBest_lt (numAt xs) (xs.size - 1)) q (by simpa [intItems] using hP) (tup_kept hT hk)
end
def tMethD {ι:Type}(CD:ι->Addr)(spm:ι->Sp)(m:Str)(E:XK)(ta:TE)(t:TA):TE:=fun σ H Q=>ta σ H fun x H1=>∃ a d dx fs,x=.ref a/\H1 a=some (.ins (CD d) dx fs)/\fs.lookup m=none/\t σ H1 fun vs H2=>spm d (x :: vs) H2 Q E
section
variable {X:Cx}{CX:CXT}{j k:Nat}{ι:Type}{CD:ι->Addr}{spm:ι->Sp}{ps:List Str}{E:XK}{m:Str}{pos apos:Pos}{e o:Expr}{es:List Expr}{ta:TE}{t:TA}
theorem c6t {pl:Sem Bool}(hM:∀ d,c0e X.prog X.w X.K X.mg X.base CX k (CD d) m ps (spm d))(hr:b4y j X.A)(hx:b4r CX X E)(he:PE X o ta)(ha:PA X (e :: es) t)(hk:k <= j:=by decide)
  (hst:starEach (e :: es) X.env=(false,eval e X.env) :: starEach es X.env:=by rfl) (hpl:(backTo pos (starEach es X.env)).any (·.1) = false:=by rfl)
  (ht:eval (.Call (.Attribute o m apos) (e :: es) [] pos) X.env=(do
   let ov <- eval o X.env
   standAt apos.atName
   let (f,first) <- holding [ov] (getMethod ov m pl)
   callWith pos f first (backTo pos (starEach (e :: es) X.env)) (backToKw pos (keywordEach [] X.env))):=by rfl) :
  PE X (.Call (.Attribute o m apos) (e :: es) [] pos) (tMethD CD spm m E ta t):=by
 intro pins s σ H Q I h;refine PySem.W.methodCall_KW (pl:=pl) (thn (he pins s σ H _ I h) fun u s1 ⟨x,H1,I1,rx,a,d,dx,fs,ex,ea,l,q⟩=>?_) ht;subst ex;obtain rfl:u=Value.ref a:=rx;have M:=hM d;obtain ⟨f,fd,hm,F,b⟩:=M.ex;refine d4y I1 ea M.cl hm l ?_;refine PySem.W.callWith_K (first:=[.ref a]) (h₀:=X.base) I.ok.mod.kin hm.kp (thn (ha pos pins s1 σ H1 _ I1 q) fun us s2 ⟨vs,H2,I2,r,q2⟩=>⟨I2.kIn,?_⟩) hst hpl;exact run_fn (us:=.ref a :: us) (vs:=.ref a :: vs) (dvs:=[]) F (hr.mono hk) b .nil hx I2 (.cons rfl r) (by rw [List.append_nil]; exact q2)
theorem d5a {pl:Sem Bool}(hM:∀ d,c0e X.prog X.w X.K X.mg X.base CX k (CD d) m ps (spm d))(hr:b4y j X.A)(hx:b4r CX X E)(he:PE X o ta)(hk:k <= j:=by decide)
  (ht:eval (.Call (.Attribute o m apos) [] [] pos) X.env=(do
   let ov <- eval o X.env
   standAt apos.atName
   let (f,first) <- holding [ov] (getMethod ov m pl)
   callWith pos f first (backTo pos (starEach [] X.env)) (backToKw pos (keywordEach [] X.env))):=by rfl) :
  PE X (.Call (.Attribute o m apos) [] [] pos) (tMethD CD spm m E ta tNil):=by
 intro pins s σ H Q I h;refine PySem.W.methodCall_KW (pl:=pl) (thn (he pins s σ H _ I h) fun u s1 ⟨x,H1,I1,rx,a,d,dx,fs,ex,ea,l,q⟩=>?_) ht;subst ex;obtain rfl:u=Value.ref a:=rx;have M:=hM d;obtain ⟨f,fd,hm,F,b⟩:=M.ex;refine d4y I1 ea M.cl hm l ?_;exact PySem.W.callWith_K0 (first:=[.ref a]) I1.kIn hm.kp (run_fn (us:=[.ref a]) (vs:=[.ref a]) (dvs:=[]) F (hr.mono hk) b .nil hx I1 (.cons rfl .nil) q)
end
structure TyC (K:PySem.W.Frag)(C:Addr):Prop where
 ca:PySem.W.findIn K (.ref C) "__class__" = some (some (.builtin "object.__class__"))
 cg:PySem.W.specialIn K (.builtin "object.__class__") "__get__" = some (some (.builtin "getset_descriptor.__get__"))
 tk:PySem.W.takesIn K (.builtin "object.__class__") = some true
 mo:PySem.W.mroIn K C (.type "object") = some true
theorem TyC.ty {K:PySem.W.Frag}{fs:List (Str × V)}(t:TyC K C)(c:Cls K C)(e:H a=some (.ins C dx fs)):a8a K H (.ref a) (.ref C):=.ins e c t.ca t.cg t.tk t.mo
section
variable {X:Cx}
theorem call_isi' {c:V}{cv:Value}(hc:∀ u,a6j c u->u=cv):b2t X (.builtin "isinstance") (rIsi X.K c cv):=by
 intro pins s σ H xs us Q I r h;obtain ⟨x,t,b,rfl,ty,e,q⟩:=h;obtain ⟨u,w',rfl,ru,rw'⟩:=a6q.two r;cases hc w' rw';exact isinst_ok I ru ty e fun tk=>⟨.bl b,H,I.tok tk,rfl,q⟩
theorem pe_isD {x:Str}{p p2 pos:Pos}{e:Expr}{te:TE}(hg:Gl X "isinstance")(hm:X.mg "isinstance" = none)(he:PE X e te)(hmC:X.mg x=some (.ref C))(hgT:Gl X x:=by rfl)(hd:(x == ("__debug__":Str)) = false:=by decide)
  (h1:starEach [e,.Name x p2] X.env=(false,eval e X.env) :: starEach [.Name x p2] X.env:=by rfl) (h2:(backTo pos (starEach [.Name x p2] X.env)).any (·.1) = false:=by rfl) :
  PE X (.Call (.Name "isinstance" p) [e,.Name x p2] [] pos) (tCB (rIsi X.K (.ref C) (.ref C)) (b9v te (b9v (tC (.ref C)) tNil))):=
 a2g (call_isi' fun u hu=>hu) hg hm boot_isinstance (a0a he (a0a (d8d hgT hmC rfl hd) a0d) h1) (by decide) (by decide) h1 h2
end
theorem d8k:bootBuiltins "max" = some (.builtin "max"):=by decide +kernel
theorem boot_min:bootBuiltins "min" = some (.builtin "min"):=by decide +kernel
section
variable {K:PySem.W.Frag}{H:Hp}{Q:VK}{σ:St}{D:c4b}{te ta tv:TE}{tA:TA}{f m:Str}{a C dx:Addr}{fs:List (Str × V)}{v:V}
def rFld (K:PySem.W.Frag)(f:Str)(x:V)(H1:Hp)(Q:VK):Prop:=∃ a C dx fs v,x=.ref a/\H1 a=some (.ins C dx fs)/\Cls K C/\a8m K C f/\fs.lookup f=some v/\Q v H1
theorem st_fld (h:ta σ H fun x H1=>rFld K f x H1 Q):tFld K ta f σ H Q:=h
theorem a2b (e:H a=some (.ins C dx fs))(c:Cls K C)(n:a8m K C f)(l:fs.lookup f=some v)(q:Q v H):rFld K f (.ref a) H Q:=⟨a,C,dx,fs,v,rfl,e,c,n,l,q⟩
def rPut (K:PySem.W.Frag)(f:Str)(D:c4b)(σ:St)(y x:V)(H2:Hp):Prop:=∃ a C dx fs,x=.ref a/\H2 a=some (.ins C dx fs)/\Cls K C/\a8m K C f/\fs.length < 1000/\D.nx σ (upd H2 a (.ins C dx (c5j f y fs)))
theorem st_put (h:tv σ H fun y H1=>ta σ H1 fun x H2=>rPut K f D σ y x H2):sFld K ta tv f D σ H:=h
theorem a9b {y:V}(e:H a=some (.ins C dx fs))(c:Cls K C)(n:a8m K C f)(l:fs.length < 1000)(q:D.nx σ (upd H a (.ins C dx (c5j f y fs)))):rPut K f D σ y (.ref a) H:=⟨a,C,dx,fs,rfl,e,c,n,l,q⟩
theorem st_make {sp:Sp}{dvs:List V}(h:tA σ H fun vs H1=>∀ x dx,H1 x=none->H1 dx=none->dx ≠ x->sp (.ref x :: (vs ++ dvs)) (upd (upd H1 dx (.own x)) x (.ins C dx [])) (fun v H2=>v=.non/\Q (.ref x) H2) E):tMake C sp dvs E tA σ H Q:=h
def rMeth {ι:Type}(CD:ι->Addr)(m:Str)(x:V)(H1:Hp)(R:ι->Prop):Prop:=∃ a d dx fs,x=.ref a/\H1 a=some (.ins (CD d) dx fs)/\fs.lookup m=none/\R d
theorem st_md {ι:Type}{CD:ι->Addr}{spm:ι->Sp}(h:ta σ H fun x H1=>rMeth CD m x H1 fun d=>tA σ H1 fun vs H2=>spm d (x :: vs) H2 Q E):tMethD CD spm m E ta tA σ H Q:=h
theorem a5z {ι:Type}{CD:ι->Addr}{R:ι->Prop}{d:ι}(e:H a=some (.ins (CD d) dx fs))(l:fs.lookup m=none)(q:R d):rMeth CD m (.ref a) H R:=⟨a,d,dx,fs,rfl,e,l,q⟩
end
theorem d1p {x:Addr}(hx:H x=none)(hd:H dx=none):a2c H (upd (upd H dx (.own x)) x (.ins C dx [])):=fun b o e=>by
 rw [a0q (a0n e hx),a0q (a0n e hd)];exact e
end L2
namespace L2
open PySem PySem.Spec PyProof.Rows
section
variable {X:Cx}{M:List Str}{pins:List (Addr × Obj)}{σ:St}{H:Hp}{s:Shared}{scope:Scope}{x x2:Str}
end
def tComp2 (K:PySem.W.Frag)(wi:TI)(tt:TT)(te:TE):TE:=fun σ H Q=>wi σ H fun J H1=>∃ W:Nat->Nat->List V->Hp->Prop,(∃ m,W 0 m [] H1)/\∀ i m ys H,W i m ys H->
 (J.stop i H/\∀ p,H p=none->Q (.ref p) (upd H p (.lst ys)))\/
 (J.go i H/\ys.length < sizeLine/\∃ N:List V->Hp->Prop,(∀ ys' H',N ys' H'->∃ m',m' < m/\W (i + 1) m' ys' H')/\
  ∀ x H',J.yld i H x H'->∃ a v w,x=.ref a/\SqT K H' a [v,w]/\tt (some v :: some w :: σ) H' fun b H2=>if b=true then te (some v :: some w :: σ) H2 fun y H3=>N (ys ++ [y]) H3 else N ys H2)
section
variable {X:Cx}{M:List Str}{scope:Scope}{x x2:Str}{px px2 ptg pos:Pos}{tk:Nat}{elt iter:Expr}{ifs:List Expr}{wi:TI}{tt:TT}{te:TE}
end
end L2
namespace L2
open PySem PySem.Spec PyProof.Rows
variable {H:Hp}{T:List (Str × Int)}{is ns:List Int}{xs:List V}{i:Nat}{k:Str}{x:V}
def dV:V->PyData
 | .bl b=>.bool b
 | .int i=>.int i
 | .str x=>.str x
 | _=>.none
def okV:V->Bool
 | .non=>true
 | .bl _=>true
 | .int _=>true
 | .str x=>PyData.strOk x
 | _=>false
theorem okV_flat:∀ {x:V},okV x=true->flatV x=true
 | .non,_=>rfl
 | .bl b,_=>rfl
 | .int i,_=>rfl
 | .str x,_=>rfl
theorem a5f (s:String):PyData.strOk (Str.ofString s) = true:=by
 rw [Str.ofString_eq_toList];unfold PyData.strOk;rw [<- Array.all_toList];refine List.all_eq_true.mpr fun x hx=>?_;obtain ⟨c,_,rfl⟩:=List.mem_map.mp hx;refine decide_eq_true ?_;have h:=c.valid;have e:c.toNat=c.val.toNat:=rfl
 rcases h with h | ⟨_,h⟩
 ·have h':c.val.toNat < 0xd800:=h;omega
 ·have h':c.val.toNat < 0x110000:=h;omega
theorem dv_flat {K:PySem.W.Frag}:∀ {x:V},okV x=true->DV K H x (dV x)
 | .non,_=>.non
 | .bl b,_=>.bl b
 | .int i,_=>.int i
 | .str x,_=>.str x
theorem b9e {K:PySem.W.Frag}{H:Hp}:∀ {xs:List V},xs.all okV=true->DVs K H xs (xs.map dV)
 | [],_=>.nil
 | x :: xs,h=>by
  rw [List.all_cons,Bool.and_eq_true] at h;exact .cons (dv_flat h.1) (b9e h.2)
theorem dV_lay (h:okV x=true):(dV x).canLay0=true:=by
 cases x <;> first | (simp [dV,PyData.canLay0]; done) | (simp only [dV,PyData.canLay0]; exact h) | cases h
theorem dV_depth (x:V):(dV x).depth=0:=by cases x <;> simp [dV,PyData.depth]
theorem d0x:∀ {xs:List V},xs.all okV=true->PyData.canLayAll0 (xs.map dV) = true
 | [],_=>rfl
 | x :: r,h=>by
  rw [List.all_cons,Bool.and_eq_true] at h;simp [PyData.canLayAll0,dV_lay h.1,d0x h.2]
theorem b7g:∀ xs:List V,PyData.depthAll (xs.map dV) = 0
 | []=>rfl
 | x :: r=>by simp [PyData.depthAll,dV_depth x,b7g r]
theorem dV_eqv (x:V):PyData.eqv (dV x) (dV x) = true:=by cases x <;> simp [dV,PyData.eqv]
theorem d9g:∀ xs:List V,PyData.eqvAll (xs.map dV) (xs.map dV) = true
 | []=>rfl
 | x :: r=>by simp [PyData.eqvAll,dV_eqv x,d9g r]
theorem shapedL (h:xs.all okV=true):SeqAt.shaped (.list (xs.map dV)) = true:=by simp [SeqAt.shaped,PyData.canLay0,PyData.depth,d0x h,b7g]
section
variable {K:PySem.W.Frag}{H:Hp}{Q:VK}{σ:St}{D:c4b}{a b t u:Addr}{xs ys:List V}
theorem st_neL (ha:SqL K H a xs)(hb:SqL K H b xs)(hf:xs.all okV=true)(q:Q (.bl false) H):rNeD K (.ref a) (.ref b) H Q:=
 ⟨_,_,.lst ha (b9e hf),.lst hb (b9e hf),shapedL hf,shapedL hf,by rw [PyData.eqv,d9g]; exact q⟩
theorem st_slT {lo hi:Option Int}(s:SqT K H a xs)(c:¬ (HT.sIx xs.length 0 lo=0/\HT.sIx xs.length xs.length hi=xs.length))(h:∀ p,H p=none->Q (.ref p) (upd H p (.tup (d3s xs lo hi)))):rSlT K (.ref a) lo hi H Q:=⟨a,xs,rfl,s,c,h⟩
theorem st_bestT {le:Int->Int->Prop}(s:SqT K H a (ns.map V.int))(h0:0 < ns.length)(q:∀ M,M ∈ ns->(∀ a ∈ ns,le a M)->Q (.int M) H):rBest K le [.ref a] H Q:=⟨a,ns,rfl,.inr s,h0,q⟩
theorem st_bestL {le:Int->Int->Prop}(s:SqL K H a (ns.map V.int))(h0:0 < ns.length)(q:∀ M,M ∈ ns->(∀ a ∈ ns,le a M)->Q (.int M) H):rBest K le [.ref a] H Q:=⟨a,ns,rfl,.inl s,h0,q⟩
theorem c3m {neg:Bool}(h:Tab K a T)(q:Q (.bl (neg != (d7y k T).isSome)) H):rInTab K neg (.str k) (.ref a) H Q:=⟨k,a,T,rfl,rfl,h,q⟩
theorem c8q {i:Int}(h:Tab K a T)(e:d7y k T=some i)(q:Q (.int i) H):rIxTab K (.ref a) (.str k) H Q:=⟨k,a,T,i,rfl,rfl,h,e,q⟩
end
section
variable {X:Cx}
end
theorem ite_t {c A B:Prop} [Decidable c](h:c)(a:A):if decide c=true then A else B:=by
 rw [decide_eq_true h];exact iteT a
theorem ite_f {c A B:Prop} [Decidable c](h:¬ c)(b:B):if decide c=true then A else B:=by
 rw [decide_eq_false h];exact iteF b
theorem cut1 (x:V)(xs:List V):d3s (x :: xs) (some 1) none=xs:=by
 unfold d3s;rw [HT.sIx_none,show (some (1:Int)) = some ((1:Nat):Int) from rfl,HT.sIx_nat];simp
section
variable {K:PySem.W.Frag}{H:Hp}{Q:VK}{a:Addr}{xs:List V}
theorem st_tl (s:SqT K H a (x :: xs))(h:∀ p,H p=none->Q (.ref p) (upd H p (.tup xs))):rSlT K (.ref a) (some 1) none H Q:=
 st_slT s (fun z=>by rw [show (some (1:Int)) = some ((1:Nat):Int) from rfl,HT.sIx_nat] at z; have:=z.1; simp at this) (by rw [cut1]; exact h)
end
theorem same_init {x dx t C:Addr}{o o2:HO}(hx:H x=none)(hd:H dx=none)(ht:(upd (upd H dx (.own x)) x (.ins C dx [])) t=none):a2c H (upd (upd (upd (upd H dx (.own x)) x (.ins C dx [])) t o) x o2):=by
 intro b u e;have e2:=d1p (C:=C) hx hd b u e;rw [a0q (a0n e hx),a0q (a0n e2 ht)];exact e2
theorem at0 (x:V)(xs:List V):atI (x :: xs) 0=some x:=b2d (j:=0) rfl
theorem at1 (x y:V)(xs:List V):atI (x :: y :: xs) 1=some y:=b2d (j:=1) rfl
theorem all_get {f:V->Bool}(h:xs.all f=true)(e:xs[i]? = some x):f x=true:=List.all_eq_true.mp h _ (List.mem_of_getElem? e)
theorem a1g {α:Type}{xs:List α}{x:α}(e:xs[i]? = some x):xs.take (i + 1) = xs.take i ++ [x]:=by
 rw [List.take_add_one,e];rfl
theorem all_id_map {f:V->Bool}:(xs.map f).all id=xs.all f:=by
 rw [List.all_map];rfl
theorem int_get (e:(is.map V.int)[i]? = some x):∃ j,x=.int j:=by
 rw [List.getElem?_map] at e
 cases h:is[i]? with
 | none=>rw [h] at e; cases e
 | some j=>rw [h] at e; exact ⟨j,(Option.some.inj e).symm⟩
theorem d9e (n:Nat):(List.replicate n true).all id=true:=by simp
theorem len1 (h:is.length=1):∃ i,is=[i]:=by
 match is,h with
 | [i],_=>exact ⟨i,rfl⟩
theorem len2 (h:is.length=2):∃ i j,is=[i,j]:=by
 match is,h with
 | [i,j],_=>exact ⟨i,j,rfl⟩
section
variable {K:PySem.W.Frag}{a:Addr}{xs:List V}{tl te:TE}{tt:TT}{Q:VK}{σ:St}{H:Hp}
end
end L2
namespace L2
open PySem PySem.Spec PyProof.Rows
section
variable {H:Hp}{Q:VK}{n m:Nat}{p q:Bool}
theorem st_xorNB (h:Q (.int ((n ^^^ p.toNat:Nat):Int)) H):rI0 (fun i j=>.int (Builtin.bitXor i j)) (.int (n:Int)) (.int (Tw.bI p)) H Q:=d6y (by
 rw [Tw.d5k,c5a]; exact h)
theorem st_xorBB (h:Q (.int (Tw.bI (p ^^ q))) H):rI0 (fun i j=>.int (Builtin.bitXor i j)) (.int (Tw.bI p)) (.int (Tw.bI q)) H Q:=d6y (by
 rw [Tw.d5k,Tw.d5k,c5a];have e:((p.toNat ^^^ q.toNat:Nat):Int) = Tw.bI (p ^^ q):=by cases p <;> cases q <;> rfl
 rw [e]; exact h)
theorem st_sub1B (h:Q (.int (Tw.bI (!q))) H):rI0 (fun i j=>.int (i - j)) (.int 1) (.int (Tw.bI q)) H Q:=d6y (by
 have e:(1:Int) - Tw.bI q=Tw.bI (!q):=by cases q <;> rfl
 rw [e]; exact h)
end
end L2
namespace Tw
open PySem L2
inductive DK where
 | over | quarter | back | both | wher | swap
 deriving DecidableEq
def DK.word:DK->Str
 | .over=>"over" | .quarter=>"quarter" | .back=>"back" | .both=>"both" | .wher=>"where" | .swap=>"swap"
def DK.undo:DK->Str
 | .over=>"over" | .quarter=>"back" | .back=>"quarter" | .both=>"both" | .wher=>"where" | .swap=>"swap"
def DK.n:DK->Nat
 | .over=>1 | .quarter=>1 | .back=>1 | .both=>1 | .wher=>2 | .swap=>2
def DK.inv:DK->DK
 | .quarter=>.back | .back=>.quarter | k=>k
def tabW:List (Str × Int):=[("over",1),("quarter",1),("back",1),("both",1),("where",2),("swap",2)]
theorem b3b (k:DK):d7y k.word tabW=some (k.n:Int):=by cases k <;> decide +kernel
theorem word_ok (k:DK):PyData.strOk k.word=true:=by cases k <;> exact a5f _
theorem DK.n_pos (k:DK):0 < k.n/\k.n <= 2:=by cases k <;> decide
def vn (l:List Nat):List V:=l.map fun k=>V.int ((k:Nat):Int)
theorem d6k (l:List Nat):vn l=(l.map fun k:Nat=>(k:Int)).map V.int:=by unfold vn; rw [List.map_map]; rfl
theorem vn_flat:∀ l:List Nat,(vn l).all okV=true
 | []=>rfl
 | _ :: r=>vn_flat r
theorem words_ok (k:DK)(l:List Nat):(V.str k.word :: vn l).all okV=true:=by
 rw [List.all_cons,vn_flat,Bool.and_true];exact word_ok k
theorem d2e (l:List Nat):(vn l).length=l.length:=by unfold vn; rw [List.length_map]
structure Dd where
 k:DK
 w:List Nat
structure Dd.Ok (d:Dd)(n:Nat):Prop where
 len:d.w.length=d.k.n
 lt:∀ x ∈ d.w,x < n
 nd:d.w.Nodup
def flds (k:DK)(t:Addr):List (Str × V):=[("word",.str k.word),("undoer",.str k.undo),("at",.ref t)]
theorem a5y (k:DK)(t:Addr):(flds k t).lookup ("at":Str) = some (.ref t):=by
 unfold flds;rw [List.lookup_cons,show (("at":Str) == "word") = false by decide +kernel];show List.lookup ("at":Str) [(("undoer":Str),V.str k.undo),("at",.ref t)] = _;rw [List.lookup_cons,show (("at":Str) == "undoer") = false by decide +kernel];rfl
theorem flds_no (k:DK)(t:Addr){m:Str}(h1:(m == "word") = false)(h2:(m == "undoer") = false)(h3:(m == "at") = false):(flds k t).lookup m=none:=by
 unfold flds;rw [List.lookup_cons,h1];show List.lookup m [(("undoer":Str),V.str k.undo),("at",.ref t)] = _;rw [List.lookup_cons,h2];show List.lookup m [(("at":Str),V.ref t)] = _;rw [List.lookup_cons,h3];rfl
theorem flds_put (w u:Str)(t:Addr):c5j "at" (.ref t) (c5j "undoer" (.str u) (c5j "word" (.str w) [])) = ([("word",.str w),("undoer",.str u),("at",.ref t)]:List (Str × V)):=by
 have h1:¬ (("word":Str) = "undoer"):=by decide +kernel
 have h2:¬ (("word":Str) = "at"):=by decide +kernel
 have h3:¬ (("undoer":Str) = "at"):=by decide +kernel
 simp only [c5j,if_neg h1,if_neg h2,if_neg h3]
def DdAt (CD:DK->Addr)(H:Hp)(a:Addr)(d:Dd):Prop:=∃ dx t,H a=some (.ins (CD d.k) dx (flds d.k t))/\H t=some (.tup (vn d.w))/\d.w.length=d.k.n
theorem DdAt.same {CD:DK->Addr}{H H':Hp}{a:Addr}{d:Dd}(h:DdAt CD H a d)(s:a2c H H'):DdAt CD H' a d:=by
 obtain ⟨dx,t,h1,h2,h3⟩:=h;exact ⟨dx,t,s _ _ h1,s _ _ h2,h3⟩
def WdAt (H:Hp)(a:Addr)(k:DK)(is:List Int):Prop:=H a=some (.tup (.str k.word :: is.map V.int))/\is.length=k.n/\is.Nodup
def WN (K:PySem.W.Frag)(H:Hp)(v:V)(b:Bool):Prop:=∃ t b1 b2,a8a K H v t/\PySem.W.kitOne K t (.type "int") = some b1/\PySem.W.kitOne K t (.type "bool") = some b2/\b=(b1 && !b2)
theorem WN.int (K:PySem.W.Frag)(H:Hp)(i:Int):WN K H (.int i) true:=⟨_,true,false,.int i,d0c,c5n,rfl⟩
theorem WN.bl (K:PySem.W.Frag)(H:Hp)(i:Bool):WN K H (.bl i) false:=⟨_,true,true,.bl i,c6c,c2w,rfl⟩
theorem WN.str (K:PySem.W.Frag)(H:Hp)(i:Str):WN K H (.str i) false:=⟨_,false,false,.str i,d3a,c5y,rfl⟩
theorem WN.non (K:PySem.W.Frag)(H:Hp):WN K H .non false:=⟨_,false,false,.non,b6q,b4s,rfl⟩
def wnB:V->Bool
 | .int _=>true
 | _=>false
theorem WN.flat (K:PySem.W.Frag)(H:Hp):∀ {v:V},flatV v=true->WN K H v (wnB v)
 | .int i,_=>WN.int K H i
 | .bl i,_=>WN.bl K H i
 | .str i,_=>WN.str K H i
 | .non,_=>WN.non K H
inductive NoW (K:PySem.W.Frag) (H:Hp):V->Prop
 | kind {v t} (h:a8a K H v t) (k:PySem.W.kitOne K t (.type "tuple") = some false):NoW K H v
 | empty {a} (h:H a=some (.tup [])):NoW K H (.ref a)
 | first {a i xs} (h:H a=some (.tup (.int i :: xs))) (f:xs.all okV=true) (m:xs.length <= 900):NoW K H (.ref a)
 | word {a s xs} (h:H a=some (.tup (.str s :: xs))) (e:d7y s tabW=none) (fs:PyData.strOk s=true) (f:xs.all okV=true) (m:xs.length <= 900):NoW K H (.ref a)
 | len {a k xs} (h:H a=some (.tup (.str (DK.word k) :: xs))) (l:xs.length ≠ k.n) (f:xs.all okV=true) (m:xs.length <= 900):NoW K H (.ref a)
 | part {a k xs} (h:H a=some (.tup (.str (DK.word k) :: xs))) (l:xs.length=k.n) (f:xs.all okV=true) (e:xs.all wnB=false):NoW K H (.ref a)
 | same {a k i} (h:H a=some (.tup [.str (DK.word k),.int i,.int i])) (e:k.n=2):NoW K H (.ref a)
def b2v (K:PySem.W.Frag):Sp:=fun vs H Q _=>∃ v b,vs=[v]/\WN K H v b/\Q (.bl b) H
def c0j (K:PySem.W.Frag)(C:Addr):Sp:=fun vs H Q E=>∃ v,vs=[v]/\((NoW K H v/\∀ H',a2c H H'->E (.ref C) none H')\/(∃ a k is,v=.ref a/\WdAt H a k is/\∀ H',a2c H H'->Q .non H'))
def b0b (K:PySem.W.Frag)(CD:DK->Addr):Sp:=fun vs H Q _=>∃ p w u t,vs=[.ref p,.str w,.str u,.ref t]/\∃ k dx,H p=some (.ins (CD k) dx [])/\Q .non (upd H p (.ins (CD k) dx [("word",.str w),("undoer",.str u),("at",.ref t)]))
def c1y (K:PySem.W.Frag)(CD:DK->Addr)(k:DK):Sp:=fun vs H Q _=>∃ (p:Addr) (j:Nat),vs=[.ref p,.int j]/\∃ dx,H p=some (.ins (CD k) dx [])/\∀ t,H t=none->Q .non (upd (upd H t (.tup (vn [j]))) p (.ins (CD k) dx (flds k t)))
def d7w (K:PySem.W.Frag)(CD:DK->Addr)(k:DK):Sp:=fun vs H Q _=>∃ (p:Addr) (j i:Nat),vs=[.ref p,.int j,.int i]/\∃ dx,H p=some (.ins (CD k) dx [])/\∀ t,H t=none->Q .non (upd (upd H t (.tup (vn [j,i]))) p (.ins (CD k) dx (flds k t)))
abbrev b0e (K:PySem.W.Frag)(CD:DK->Addr):Sp:=c1y K CD .over
abbrev a7h (K:PySem.W.Frag)(CD:DK->Addr):Sp:=c1y K CD .quarter
abbrev a9y (K:PySem.W.Frag)(CD:DK->Addr):Sp:=c1y K CD .back
abbrev b0h (K:PySem.W.Frag)(CD:DK->Addr):Sp:=c1y K CD .both
abbrev a9c (K:PySem.W.Frag)(CD:DK->Addr):Sp:=d7w K CD .wher
abbrev b0k (K:PySem.W.Frag)(CD:DK->Addr):Sp:=d7w K CD .swap
def c3q (K:PySem.W.Frag)(CD:DK->Addr):Sp:=fun vs H Q _=>∃ a d,vs=[.ref a]/\DdAt CD H a d/\∀ p,H p=none->Q (.ref p) (upd H p (.lst (vn d.w)))
abbrev d5d (K:PySem.W.Frag)(CD:DK->Addr)(_:DK):Sp:=c3q K CD
def b6k (K:PySem.W.Frag)(CD:DK->Addr)(C1 C2:Addr):Sp:=fun vs H Q E=>∃ v,vs=[v]/\((NoW K H v/\∀ H',a2c H H'->E (.ref C1) none H')\/(∃ a k is,v=.ref a/\WdAt H a k is/\
 ((∀ i ∈ is,0 <= i)->∀ p d H',a2c H H'->DdAt CD H' p d->d.k=k->d.w.map (fun x:Nat=>(x:Int)) = is->Q (.ref p) H')/\((¬ ∀ i ∈ is,0 <= i)->∀ H',a2c H H'->E (.ref C2) none H')))
def d5e (K:PySem.W.Frag)(CD:DK->Addr)(C1 C2:Addr):Sp:=fun vs H Q E=>∃ v n,vs=[v,.int ((n:Nat):Int)]/\((NoW K H v/\∀ H',a2c H H'->E (.ref C1) none H')\/(∃ a k is,v=.ref a/\WdAt H a k is/\
 ((∀ i ∈ is,0 <= i/\i < (n:Int))->∀ p d H',a2c H H'->DdAt CD H' p d->d.k=k->d.w.map (fun x:Nat=>(x:Int)) = is->Q (.ref p) H')/\((¬ ∀ i ∈ is,0 <= i/\i < (n:Int))->∀ H',a2c H H'->E (.ref C2) none H')))
structure Row where
 m:Nat
 x:Nat
 z:Nat
def Row.V (r:Row):List V:=[.int (r.m:Nat),.int (r.x:Nat),.int (r.z:Nat)]
structure Row.Ok (r:Row)(n:Nat):Prop where
 m:r.m <= 1
 x:r.x < 2 ^ n
 z:r.z < 2 ^ n
def ex (n i j:Nat):Nat:=n ^^^ (n.testBit i ^^ n.testBit j).toNat * 2 ^ i ^^^ (n.testBit i ^^ n.testBit j).toNat * 2 ^ j
def c8n (k:DK)(i j:Nat)(r:Row):Row:=
 match k with
 | .over=>⟨r.m ^^^ (r.z.testBit i).toNat,r.x,r.z⟩
 | .quarter=>⟨r.m ^^^ (r.x.testBit i && r.z.testBit i).toNat,r.x,r.z ^^^ (r.x.testBit i).toNat * 2 ^ i⟩
 | .back=>⟨r.m ^^^ (r.x.testBit i && !r.z.testBit i).toNat,r.x,r.z ^^^ (r.x.testBit i).toNat * 2 ^ i⟩
 | .both=>⟨r.m ^^^ (r.x.testBit i && r.z.testBit i).toNat,r.x ^^^ (r.x.testBit i ^^ r.z.testBit i).toNat * 2 ^ i,r.z ^^^ (r.x.testBit i ^^ r.z.testBit i).toNat * 2 ^ i⟩
 | .wher=>⟨r.m ^^^ (r.x.testBit i && r.z.testBit j && !(r.z.testBit i ^^ r.x.testBit j)).toNat,r.x ^^^ (r.x.testBit i).toNat * 2 ^ j,r.z ^^^ (r.z.testBit j).toNat * 2 ^ i⟩
 | .swap=>⟨r.m,ex r.x i j,ex r.z i j⟩
def act (d:Dd)(r:Row):Row:=c8n d.k (d.w.getD 0 0) (d.w.getD 1 0) r
def c9m (K:PySem.W.Frag):Sp:=fun vs H Q _=>∃ n k:Nat,vs=[.int n,.int k]/\Q (.int (bI (n.testBit k))) H
def b7v (K:PySem.W.Frag):Sp:=fun vs H Q _=>∃ n i j:Nat,vs=[.int n,.int i,.int j]/\i <= 1000/\j <= 1000/\Q (.int (ex n i j:Nat)) H
def b5u (K:PySem.W.Frag)(CD:DK->Addr)(k:DK):Sp:=fun vs H Q _=>∃ (a b:Addr) (d:Dd) (r:Row),vs=[.ref a,.ref b]/\d.k=k/\DdAt CD H a d/\(∀ x ∈ d.w,x <= 1000)/\SqT K H b r.V/\∀ p H',a2c H H'->H' p=some (.tup (act d r).V)->Q (.ref p) H'
abbrev c9v (K:PySem.W.Frag)(CD:DK->Addr)(k:DK):Sp:=b5u K CD k
abbrev d3w (K:PySem.W.Frag)(CD:DK->Addr):Sp:=b5u K CD .over
abbrev c4y (K:PySem.W.Frag)(CD:DK->Addr):Sp:=b5u K CD .quarter
abbrev d3f (K:PySem.W.Frag)(CD:DK->Addr):Sp:=b5u K CD .back
abbrev d4d (K:PySem.W.Frag)(CD:DK->Addr):Sp:=b5u K CD .both
abbrev c9f (K:PySem.W.Frag)(CD:DK->Addr):Sp:=b5u K CD .wher
abbrev d3m (K:PySem.W.Frag)(CD:DK->Addr):Sp:=b5u K CD .swap
theorem b1c {w:List Nat}(h:w.length=1):∃ i,w=[i]:=by
 match w,h with
 | [i],_=>exact ⟨i,rfl⟩
theorem b8f {w:List Nat}(h:w.length=2):∃ i j,w=[i,j]:=by
 match w,h with
 | [i,j],_=>exact ⟨i,j,rfl⟩
end Tw
namespace Tw
variable {a b i j:Nat}
theorem b4n (b:Bool)(i k:Nat):(b.toNat * 2 ^ i).testBit k=(decide (i=k) && b):=by
 cases b with
 | false=>simp
 | true=>simp [Nat.testBit_two_pow]
def c0v (q:Nat)(p:Int × Int):Int × Int:=
 if q % 4=0 then p else if q % 4=1 then (-p.2,p.1) else if q % 4=2 then (-p.1,-p.2) else (p.2,-p.1)
theorem turn_mod (h:a % 4=b % 4)(p:Int × Int):c0v a p=c0v b p:=by unfold c0v; rw [h]
def clr (b i:Nat):Nat:=b - (b.testBit i).toNat * 2 ^ i
def c4n (k:DK)(i j:Nat)(e:Nat × Int × Int):List (Nat × Int × Int):=
 match k with
 | .over=>[(e.1 ^^^ 2 ^ i,e.2)]
 | .quarter=>[(e.1,c0v (e.1.testBit i).toNat e.2)]
 | .back=>[(e.1,c0v (3 * (e.1.testBit i).toNat) e.2)]
 | .both=>[(clr e.1 i,e.2),(clr e.1 i + 2 ^ i,c0v (2 * (e.1.testBit i).toNat) e.2)]
 | .wher=>[(e.1 ^^^ (e.1.testBit i).toNat * 2 ^ j,e.2)]
 | .swap=>[(clr (clr e.1 i) j + (e.1.testBit j).toNat * 2 ^ i + (e.1.testBit i).toNat * 2 ^ j,e.2)]
theorem add_xor {t:Nat}(h:a &&& t=0):a + t=a ^^^ t:=by
 have h1:=c5h a t;have h2:=b5h a t;omega
theorem clr_xor (b i:Nat):clr b i=b ^^^ (b.testBit i).toNat * 2 ^ i:=by
 have h:(b ^^^ (b.testBit i).toNat * 2 ^ i) &&& ((b.testBit i).toNat * 2 ^ i) = 0:=by
  apply Nat.eq_of_testBit_eq;intro k;rw [Nat.testBit_and,Nat.testBit_xor,b4n,Nat.zero_testBit]
  by_cases e:i=k
  ·subst e;cases b.testBit i <;> simp
  ·simp [e]
 have h2:=add_xor h;rw [Nat.xor_assoc,Nat.xor_self,Nat.xor_zero] at h2;unfold clr;omega
theorem d4p (b i k:Nat):(clr b i).testBit k=(!decide (i=k) && b.testBit k):=by
 rw [clr_xor,Nat.testBit_xor,b4n]
 by_cases e:i=k
 ·subst e;cases b.testBit i <;> simp
 ·simp [e]
theorem add_bit {b:Bool}(h:a.testBit i=false):a + b.toNat * 2 ^ i=a ^^^ b.toNat * 2 ^ i:=by
 apply add_xor;apply Nat.eq_of_testBit_eq;intro k;rw [Nat.testBit_and,b4n,Nat.zero_testBit]
 by_cases e:i=k
 ·subst e;simp [h]
 ·simp [e]
theorem swap_xor (hij:i ≠ j):clr (clr b i) j + (b.testBit j).toNat * 2 ^ i + (b.testBit i).toNat * 2 ^ j=ex b i j:=by
 have h1:=add_bit (a:=clr (clr b i) j) (i:=i) (b:=b.testBit j) (by rw [d4p,d4p]; simp);rw [h1];have h2:=add_bit (a:=clr (clr b i) j ^^^ (b.testBit j).toNat * 2 ^ i) (i:=j) (b:=b.testBit i) (by rw [Nat.testBit_xor,d4p,b4n]; simp [hij]);rw [h2];unfold ex;apply Nat.eq_of_testBit_eq;intro k;simp only [Nat.testBit_xor,d4p,b4n]
 by_cases e:i=k
 ·subst e;simp only [Ne.symm hij,decide_true,decide_false,Bool.false_and,Bool.true_and,Bool.not_false,Bool.not_true,Bool.xor_false];cases b.testBit i <;> cases b.testBit j <;> rfl
 ·by_cases e2:j=k
  ·subst e2;simp only [e,decide_true,decide_false,Bool.false_and,Bool.true_and,Bool.not_false,Bool.not_true,Bool.xor_false];cases b.testBit i <;> cases b.testBit j <;> rfl
  ·simp [e,e2]
theorem ex_tb {k:Nat}(hij:i ≠ j):(ex b i j).testBit k=if k=i then b.testBit j else if k=j then b.testBit i else b.testBit k:=by
 unfold ex;simp only [Nat.testBit_xor,b4n]
 by_cases e:k=i
 ·subst e;simp only [Ne.symm hij,decide_true,decide_false,Bool.false_and,Bool.true_and,Bool.xor_false,if_true];cases b.testBit k <;> cases b.testBit j <;> rfl
 ·by_cases e2:k=j
  ·subst e2;simp only [e,Ne.symm e,decide_true,decide_false,Bool.false_and,Bool.true_and,Bool.xor_false,if_true,if_false];cases b.testBit k <;> cases b.testBit i <;> rfl
  ·simp [e,e2,Ne.symm e,Ne.symm e2]
theorem m_xor {m:Nat}(h:m <= 1)(b:Bool):m ^^^ b.toNat=if b then 1 - m else m:=by
 match m,h with
 | 0,_=>cases b <;> rfl
 | 1,_=>cases b <;> rfl
end Tw
namespace Tw
section
variable {i j n b:Nat}{r:Row}
end
end Tw
namespace Tw
open PySem L2
theorem b4u {b:Bool}{i n:Nat}(h:i < n):b.toNat * 2 ^ i < 2 ^ n:=by
 have h1:(2:Nat) ^ i < 2 ^ n:=Nat.pow_lt_pow_right (by decide) h;have h2:=Nat.two_pow_pos n;cases b
 ·simpa using h2
 ·simpa using h1
theorem m_le {m:Nat}(h:m <= 1)(b:Bool):m ^^^ b.toNat <= 1:=by
 rw [m_xor h];cases b <;> simp <;> omega
theorem actW_ok {k:DK}{i j n:Nat}{r:Row}(ok:r.Ok n)(hi:i < n)(hj:k.n=2->j < n):(c8n k i j r).Ok n:=by
 cases k with
 | over=>exact ⟨m_le ok.m _,ok.x,ok.z⟩
 | quarter=>exact ⟨m_le ok.m _,ok.x,b8b ok.z (b4u hi)⟩
 | back=>exact ⟨m_le ok.m _,ok.x,b8b ok.z (b4u hi)⟩
 | both=>exact ⟨m_le ok.m _,b8b ok.x (b4u hi),b8b ok.z (b4u hi)⟩
 | wher=>exact ⟨m_le ok.m _,b8b ok.x (b4u (hj rfl)),b8b ok.z (b4u hi)⟩
 | swap=>exact ⟨ok.m,b8b (b8b ok.x (b4u hi)) (b4u (hj rfl)),b8b (b8b ok.z (b4u hi)) (b4u (hj rfl))⟩
theorem Dd.Ok.one {d:Dd}{n:Nat}(ok:d.Ok n):d.w.getD 0 0 < n/\(d.k.n=2->d.w.getD 1 0 < n/\d.w.getD 0 0 ≠ d.w.getD 1 0)/\d.w.getD 0 0 ∈ d.w/\(d.k.n=2->d.w.getD 1 0 ∈ d.w):=by
 obtain ⟨k,w⟩:=d;have hl:=ok.len;have hp:=k.n_pos;have hlt:=ok.lt;have hnd:=ok.nd;dsimp only at hl hlt hnd ⊢
 rcases Nat.lt_or_ge k.n 2 with h | h
 ·obtain ⟨i,rfl⟩:=b1c (w:=w) (by omega);exact ⟨hlt i (by simp),fun z=>by omega,by simp,fun z=>by omega⟩
 ·obtain ⟨i,j,rfl⟩:=b8f (w:=w) (by omega)
  have hij:i ≠ j:=by
   intro z;subst z;simp at hnd
  exact ⟨hlt i (by simp),fun _=>⟨hlt j (by simp),hij⟩,by simp,fun _=>by simp⟩
theorem act_ok {d:Dd}{n:Nat}{r:Row}(ok:r.Ok n)(hd:d.Ok n):(act d r).Ok n:=actW_ok ok hd.one.1 fun e=>(hd.one.2.1 e).1
end Tw
namespace Tw
open PySem L2
def But (f:Addr)(H H':Hp):Prop:=∀ c o,c ≠ f->H c=some o->H' c=some o
theorem But.upd {f:Addr}{H:Hp}{o:HO}:But f H (L2.upd H f o):=fun c u hc e=>by rw [a0q hc]; exact e
end Tw
namespace Tw
open PySem L2
variable {a:Addr}{p:Int × Int}{b c:Nat}
abbrev Wh:=List (Nat × Int × Int)
inductive WR (K:PySem.W.Frag) (H:Hp):Wh->List (Key × V)->Prop
 | nil:WR K H [] []
 | cons {b:Nat} {p:Int × Int} {a:Addr} {ws:Wh} {kvs:List (Key × V)}:SqT K H a [.int p.1,.int p.2]->WR K H ws kvs->WR K H ((b,p) :: ws) ((.inl ((b:Nat):Int),.ref a) :: kvs)
def wat (ws:Wh)(b:Nat):Option (Int × Int):=(ws.find? fun e=>decide (e.1=b)).map (·.2)
def wput (ws:Wh)(b:Nat)(p:Int × Int):Wh:=if ws.any (fun e=>decide (e.1=b)) then ws.map (fun e=>if e.1=b then (e.1,p) else e) else ws ++ [(b,p)]
section
variable {K:PySem.W.Frag}{H H':Hp}{ws:Wh}{kvs:List (Key × V)}
theorem WR.stay (h:WR K H ws kvs)(s:∀ a xs,SqT K H a xs->SqT K H' a xs):WR K H' ws kvs:=by
 induction h with
 | nil=>exact .nil
 | cons q _ ih=>exact .cons (s _ _ q) ih
theorem WR.len (h:WR K H ws kvs):kvs.length=ws.length:=by
 induction h with
 | nil=>rfl
 | cons q _ ih=>simp [ih]
theorem key_eq {a:Nat}:((Sum.inl ((a:Nat):Int):Key) = .inl ((b:Nat):Int)) ↔ a=b:=by
 constructor
 ·intro h;exact Int.ofNat_inj.mp (Sum.inl.inj h)
 ·rintro rfl;rfl
theorem WR.val (h:WR K H ws kvs)(b:Nat):(d3c kvs (.inl ((b:Nat):Int)) = none/\wat ws b=none)\/∃ a p,d3c kvs (.inl ((b:Nat):Int)) = some (.ref a)/\SqT K H a [.int p.1,.int p.2]/\wat ws b=some p:=by
 induction h with
 | nil=>exact .inl ⟨rfl,rfl⟩
 | @cons c p a ws kvs q _ ih=>
  by_cases e:c=b
  ·subst e;refine .inr ⟨a,p,c8m rfl,q,?_⟩;unfold wat;rw [List.find?_cons,decide_eq_true rfl];rfl
  ·have e1:¬ (Sum.inl ((c:Nat):Int):Key) = .inl ((b:Nat):Int):=fun z=>e (key_eq.mp z)
   have e2:wat ((c,p) :: ws) b=wat ws b:=by
    unfold wat;rw [List.find?_cons,decide_eq_false e]
   rw [e2,c8e e1];exact ih
theorem WR.any (h:WR K H ws kvs)(b:Nat):(kvs.any fun kv=>decide (kv.1=.inl ((b:Nat):Int))) = ws.any fun e=>decide (e.1=b):=by
 induction h with
 | nil=>rfl
 | @cons c p a ws kvs q _ ih=>
  rw [List.any_cons,List.any_cons,ih]
  congr 1
  by_cases e:c=b
  ·subst e;rw [decide_eq_true rfl,decide_eq_true rfl]
  ·rw [decide_eq_false e,decide_eq_false fun z=>e (key_eq.mp z)]
theorem WR.snoc (h:WR K H ws kvs)(q:SqT K H a [.int p.1,.int p.2]):WR K H (ws ++ [(b,p)]) (kvs ++ [(.inl ((b:Nat):Int),.ref a)]):=by
 induction h with
 | nil=>exact .cons q .nil
 | cons q' _ ih=>exact .cons q' ih
theorem WR.repl (h:WR K H ws kvs)(q:SqT K H a [.int p.1,.int p.2]):WR K H (ws.map fun e=>if e.1=b then (e.1,p) else e) (kvs.map fun kv=>if kv.1=.inl ((b:Nat):Int) then (kv.1,.ref a) else kv):=by
 induction h with
 | nil=>exact .nil
 | @cons c p' a' ws kvs q' _ ih=>
  rw [List.map_cons,List.map_cons]
  by_cases e:c=b
  ·subst e;rw [if_pos rfl,if_pos rfl];exact .cons q ih
  ·rw [if_neg e,if_neg fun z=>e (key_eq.mp z)];exact .cons q' ih
theorem WR.put (h:WR K H ws kvs)(q:SqT K H a [.int p.1,.int p.2]):WR K H (wput ws b p) (d1s kvs (.inl ((b:Nat):Int)) (.ref a)):=by
 unfold wput d1s;rw [h.any b]
 split
 ·exact h.repl q
 ·exact h.snoc q
theorem WR.get (h:WR K H ws kvs):∀ {i:Nat} {k:Key} {v:V},kvs[i]? = some (k,v)->∃ b p a,ws[i]? = some (b,p)/\k=.inl ((b:Nat):Int)/\v=.ref a/\SqT K H a [.int p.1,.int p.2]:=by
 induction h with
 | nil=>intro i k v e; simp at e
 | @cons c p a ws kvs q _ ih=>
  intro i k v e
  cases i with
  | zero=>
   simp only [List.getElem?_cons_zero,Option.some.injEq,Prod.mk.injEq] at e;exact ⟨c,p,a,rfl,e.1.symm,e.2.symm,q⟩
  | succ i=>
   rw [List.getElem?_cons_succ] at e ⊢;exact ih e
def wd (ws:Wh):Key->PyData
 | .inl i=>d7x ((wat ws i.toNat).getD (0,0))
 | .inr _=>d7x (0,0)
theorem wat_cons (e:c ≠ b):wat ((c,p) :: ws) b=wat ws b:=by
 unfold wat;rw [List.find?_cons,decide_eq_false e]
theorem wat_hd :wat ((c,p) :: ws) c=some p:=by
 unfold wat;rw [List.find?_cons,decide_eq_true rfl];rfl
theorem wd_flat (ws:Wh)(k:Key):d8p (wd ws k):=by
 cases k with
 | inl i=>exact pair_flat _
 | inr x=>exact pair_flat _
theorem WR.dv (h:WR K H ws kvs)(nd:(ws.map (·.1)).Nodup):∀ k x,(k,x) ∈ kvs->DV K H x (wd ws k)/\d8p (wd ws k):=by
 suffices s:∀ k x,(k,x) ∈ kvs->∃ b a p,k=.inl ((b:Nat):Int)/\x=.ref a/\b ∈ ws.map (·.1)/\wat ws b=some p/\SqT K H a [.int p.1,.int p.2] by
  intro k x hx;obtain ⟨b,a,p,rfl,rfl,_,e,q⟩:=s k x hx;refine ⟨?_,wd_flat _ _⟩;show DV K H (.ref a) (d7x ((wat ws ((b:Nat):Int).toNat).getD (0,0)));rw [Int.toNat_natCast,e];exact pair_dv q
 induction h with
 | nil=>intro k x hx; cases hx
 | @cons c p a ws kvs q _ ih=>
  rw [List.map_cons,List.nodup_cons] at nd;intro k x hx
  rcases List.mem_cons.mp hx with e | hx
  ·cases e;exact ⟨c,a,p,rfl,rfl,by simp,wat_hd,q⟩
  ·obtain ⟨b,a',p',rfl,rfl,hb,e,q'⟩:=ih nd.2 k x hx;refine ⟨b,a',p',rfl,rfl,by simp [hb],?_,q'⟩;rw [wat_cons (c:=c) (b:=b) fun z=>nd.1 (by show c ∈ _; rw [z]; exact hb)];exact e
theorem WR.same {ws2:Wh}{kvs2:List (Key × V)}(h:WR K H ws kvs)(h2:WR K H ws2 kvs2)(hl:ws.length=ws2.length)(hw:∀ b,wat ws b=wat ws2 b)(hn:∀ b ∈ ws.map (·.1),(wat ws b).isSome=true):d0e kvs kvs2 (wd ws) (wd ws2) = true:=by
 unfold d0e;rw [Bool.and_eq_true];refine ⟨decide_eq_true (by rw [h.len,h2.len,hl]),List.all_eq_true.mpr fun kv hkv=>?_⟩;obtain ⟨i,hi⟩:=List.getElem?_of_mem hkv;obtain ⟨b,p,a,e1,e2,e3,_⟩:=h.get (k:=kv.1) (v:=kv.2) hi;have hb:b ∈ ws.map (·.1):=List.mem_map.mpr ⟨(b,p),List.mem_of_getElem? e1,rfl⟩
 rw [e2,Bool.and_eq_true]
 constructor
 ·have hs:=hn b hb;rw [hw b] at hs
  rcases h2.val b with ⟨_,q⟩ | ⟨a2,p2,q,_⟩
  ·rw [q] at hs; cases hs
  ·rw [q]; rfl
 ·have e:wd ws (.inl ((b:Nat):Int)) = wd ws2 (.inl ((b:Nat):Int)):=by
   unfold wd;dsimp only;rw [Int.toNat_natCast,hw b]
  rw [e];unfold wd;dsimp only;rw [pair_eqv];exact decide_eq_true rfl
end
end Tw
namespace Tw
open PySem L2
variable {p:Int × Int}{b:Nat}{ws:Wh}
def wadd (ws:Wh)(b:Nat)(p:Int × Int):Wh:=wput ws b (((wat ws b).getD (0,0)).1 + p.1,((wat ws b).getD (0,0)).2 + p.2)
def d4j (ws es:Wh):Wh:=es.foldl (fun acc e=>wadd acc e.1 e.2) ws
theorem wadd_new (h:∀ e ∈ ws,e.1 ≠ b):wadd ws b p=ws ++ [(b,p)]:=by
 have h1:(ws.any fun e=>decide (e.1=b)) = false:=by
  rw [List.any_eq_false];intro e he;simp [h e he]
 have h2:wat ws b=none:=by
  unfold wat;rw [List.find?_eq_none.mpr]
  ·rfl
  ·intro e he;simp [h e he]
 unfold wadd wput;rw [h1,h2];simp
theorem d7u (h:∀ e ∈ ws,e.1 ≠ b):wput ws b p=ws ++ [(b,p)]:=by
 have h1:(ws.any fun e=>decide (e.1=b)) = false:=by
  rw [List.any_eq_false];intro e he;simp [h e he]
 unfold wput;rw [h1];simp
def b2b (d:Dd)(ws:Wh):Wh:=ws.foldl (fun acc e=>d4j acc (c4n d.k (d.w.getD 0 0) (d.w.getD 1 0) e)) []
theorem xor_inj {a c:Nat}(h:a ^^^ c=b ^^^ c):a=b:=by
 have:=congrArg (· ^^^ c) h
 simpa [Nat.xor_assoc] using this
theorem wat_mem (h:b ∈ ws.map (·.1)):(wat ws b).isSome=true:=by
 obtain ⟨e,he,rfl⟩:=List.mem_map.mp h;unfold wat;rw [Option.isSome_map,List.find?_isSome];exact ⟨e,he,by simp⟩
end Tw
namespace L2
open PySem
variable {H:Hp}{Q:VK}
def rDisp (p:Addr)(x y:V)(H2:Hp)(Q:VK):Prop:=H2 p=some (.dK [])/\∃ kvs:List (Key × V),[(x,y)] = kvs.map (fun kv=>(kV kv.1,kv.2))/\kvs.length <= 15/\Q (.ref p) (upd H2 p (.dK (d5j [] kvs)))
theorem st_disp1 {tk tv:TE}{σ:St}(h:∀ p,H p=none->tk σ (upd H p (.dK [])) fun x H1=>tv σ H1 fun y H2=>rDisp p x y H2 Q):tDisp [(tk,tv)] σ H Q:=h
theorem st_disp2 {p:Addr}{i:Int}{y:V}(h:H p=some (.dK []))(q:Q (.ref p) (upd H p (.dK [(.inl i,y)]))):rDisp p (.int i) y H Q:=⟨h,[(.inl i,y)],rfl,Nat.le_of_ble_eq_true rfl,q⟩
section
variable {K:PySem.W.Frag}{H:Hp}{D:c4b}{σ:St}{g:TG}{tb:TS}{a:Addr}{xs:List V}
end
end L2
namespace L2
open PySem PySem.Spec PyProof.Rows
section
variable {M:Model}{A:Around}{E:Value->Shared->Prop}{s:Shared}{base:Heap}{env:Env}{outer:List Env}{L e:Addr}{cls a0 fl:Value}
end
section
variable {X:Cx}{scope:Scope}{x:Str}{px pos:Pos}{elt iter:Expr}{ifs:List Expr}{wi:TI}{tt:TT}{te:TE}{E:XK}
end
end L2
namespace L2
open PySem PySem.Spec PyProof.Rows
variable {a:Addr}{H:Hp}{xs:List V}{K:PySem.W.Frag}{σ:St}{te:TE}{tt:TT}{Q:VK}
section
variable {X:Cx}{tg:Expr}
end
section
variable {K:PySem.W.Frag}{a:Addr}{xs:List V}{g:TG}{tb:TS}{D:c4b}{σ:St}{H:Hp}
end
theorem d8j (Pv:Nat->List V->Hp->Prop)(hn:xs.length <= 1000)(h0:Pv 0 [] H)(hl:∀ i ys H,Pv i ys H->ys.length <= i)(hk:∀ i ys H,Pv i ys H->SqL K H a xs)
  (hs:∀ i x ys H,xs[i]? = some x->Pv i ys H->tt (some x :: σ) H fun b H2=>if b=true then te (some x :: σ) H2 fun y H3=>Pv (i + 1) (ys ++ [y]) H3 else Pv (i + 1) ys H2)
  (hd:∀ ys H,Pv xs.length ys H->∀ p,H p=none->Q (.ref p) (upd H p (.lst ys))) :
  ∃ W:Nat->Nat->List V->Hp->Prop,(∃ m,W 0 m [] H)/\∀ i m ys H,W i m ys H->((Itl K a).stop i H/\∀ p,H p=none->Q (.ref p) (upd H p (.lst ys)))\/
   ((Itl K a).go i H/\ys.length < sizeLine/\∃ N:List V->Hp->Prop,(∀ ys' H',N ys' H'->∃ m',m' < m/\W (i + 1) m' ys' H')/\
    ∀ x H',(Itl K a).yld i H x H'->tt (some x :: σ) H' fun b H2=>if b=true then te (some x :: σ) H2 fun y H3=>N (ys ++ [y]) H3 else N ys H2):=by
 refine ⟨fun i m ys H=>m=xs.length - i/\i <= xs.length/\Pv i ys H,⟨xs.length,by simp,Nat.zero_le _,h0⟩,?_⟩;rintro i m ys H ⟨rfl,hi,p⟩
 by_cases hlt:i < xs.length
 ·refine .inr ⟨⟨xs,xs[i],hk i ys H p,by simp [hlt]⟩,a6d (by have:=hl i ys H p; omega),Pv (i + 1),fun ys' H' p'=>⟨xs.length - (i + 1),by omega,rfl,hlt,p'⟩,fun x H' y=>?_⟩;obtain ⟨e,y⟩:=y;subst e;exact hs i x ys _ (y xs (hk i ys _ p)) p
 ·have e:i=xs.length:=by omega
  subst e;exact .inl ⟨⟨xs,hk _ ys H p,Nat.le_refl _⟩,hd ys H p⟩
theorem a5e {tl:TE}(e:∀ P:V->Hp->Prop,P (.ref a) H->tl σ H P)(s:SqL K H a xs)(Pv:Nat->List V->Hp->Prop)(hn:xs.length <= 1000)(h0:Pv 0 [] H)(hl:∀ i ys H,Pv i ys H->ys.length <= i)(hk:∀ i ys H,Pv i ys H->SqL K H a xs)
  (hs:∀ i x ys H,xs[i]? = some x->Pv i ys H->tt (some x :: σ) H fun b H2=>if b=true then te (some x :: σ) H2 fun y H3=>Pv (i + 1) (ys ++ [y]) H3 else Pv (i + 1) ys H2)
  (hd:∀ ys H,Pv xs.length ys H->∀ p,H p=none->Q (.ref p) (upd H p (.lst ys))):tComp (iList K tl) tt te σ H Q:=
 e _ ⟨a,rfl,⟨xs,s⟩,d8j Pv hn h0 hl hk hs hd⟩
end L2
namespace Tw
variable {a b c:Nat}{r:Row}
theorem xx (a b:Nat):a ^^^ b ^^^ b=a:=by rw [Nat.xor_assoc,Nat.xor_self,Nat.xor_zero]
theorem xx2 (h:c=b):a ^^^ b ^^^ c=a:=by rw [h,xx]
theorem d5f {a' b' c':Nat}(h1:a=a')(h2:b=b')(h3:c=c'):(⟨a,b,c⟩:Row) = ⟨a',b',c'⟩:=by rw [h1,h2,h3]
theorem actW_undo {k:DK}{i j:Nat}(hj:k.n=2->i ≠ j):c8n k.inv i j (c8n k i j r) = r:=by
 obtain ⟨m,x,z⟩:=r;have td:∀ q:Nat,decide (q=q) = true:=fun q=>decide_eq_true rfl
 cases k with
 | over=>exact d5f (xx _ _) rfl rfl
 | quarter=>
  refine d5f (xx2 ?_) rfl (xx2 rfl);simp only [c8n,Nat.testBit_xor,b4n,td];cases x.testBit i <;> cases z.testBit i <;> rfl
 | back=>
  refine d5f (xx2 ?_) rfl (xx2 rfl);simp only [c8n,Nat.testBit_xor,b4n,td];cases x.testBit i <;> cases z.testBit i <;> rfl
 | both=>
  refine d5f (xx2 ?_) (xx2 ?_) (xx2 ?_) <;> simp only [c8n,Nat.testBit_xor,b4n,td]
  ·cases x.testBit i <;> cases z.testBit i <;> rfl
  ·cases x.testBit i <;> cases z.testBit i <;> rfl
  ·cases x.testBit i <;> cases z.testBit i <;> rfl
 | wher=>
  have hij:=hj rfl;have d1:decide (j=i) = false:=decide_eq_false (Ne.symm hij);have d2:decide (i=j) = false:=decide_eq_false hij;refine d5f (xx2 ?_) (xx2 ?_) (xx2 ?_) <;> simp only [c8n,Nat.testBit_xor,b4n,td,d1,d2]
  ·cases x.testBit i <;> cases z.testBit i <;> cases x.testBit j <;> cases z.testBit j <;> rfl
  ·simp
  ·simp
 | swap=>
  have hij:=hj rfl
  have e:∀ b,ex (ex b i j) i j=b:=fun b=>by
   apply Nat.eq_of_testBit_eq;intro k;rw [ex_tb hij,ex_tb hij,ex_tb hij,ex_tb hij]
   by_cases e:k=i
   ·subst e; simp [Ne.symm hij]
   ·by_cases e2:k=j
    ·subst e2; simp [e]
    ·simp [e,e2]
  exact d5f rfl (e _) (e _)
def Dd.inv (d:Dd):Dd:=⟨d.k.inv,d.w⟩
theorem act_inv {d:Dd}{n:Nat}(h:d.Ok n):act d.inv (act d r) = r:=actW_undo fun e=>(h.one.2.1 e).2
def d4x (ds:List Dd)(r:Row):Row:=ds.foldl (fun r d=>act d r) r
def undo (ds:List Dd):List Dd:=(ds.map Dd.inv).reverse
theorem acts_snoc (ds:List Dd)(d:Dd)(r:Row):d4x (ds ++ [d]) r=act d (d4x ds r):=by unfold d4x; rw [List.foldl_append]; rfl
theorem d1n {n:Nat}:∀ {ds:List Dd},(∀ d ∈ ds,d.Ok n)->∀ r,d4x (undo ds) (d4x ds r) = r
 | [],_,_=>rfl
 | d :: ds,h,r=>by
  have e:undo (d :: ds) = undo ds ++ [d.inv]:=by unfold undo; rw [List.map_cons,List.reverse_cons]
  rw [e,acts_snoc];show act d.inv (d4x (undo ds) (d4x ds (act d r))) = r;rw [d1n (fun x hx=>h x (List.mem_cons_of_mem _ hx)),act_inv (h d List.mem_cons_self)]
theorem acts_ok {n:Nat}:∀ {ds:List Dd} {r:Row},r.Ok n->(∀ d ∈ ds,d.Ok n)->(d4x ds r).Ok n
 | [],_,h,_=>h
 | d :: ds,r,h,hd=>acts_ok (ds:=ds) (act_ok h (hd d List.mem_cons_self)) fun x hx=>hd x (List.mem_cons_of_mem _ hx)
end Tw
namespace Tw
open PySem L2
inductive a6h {α β:Type} (R:α->β->Prop):List α->List β->Prop
 | nil:a6h R [] []
 | cons {a b as bs} (h:R a b) (t:a6h R as bs):a6h R (a :: as) (b :: bs)
section
variable {α β:Type}{R R':α->β->Prop}{as cs:List α}{bs ds:List β}
theorem a6h.mono (k:∀ a b,R a b->R' a b):∀ {as:List α} {bs:List β},a6h R as bs->a6h R' as bs
 | _,_,.nil=>.nil
 | _,_,.cons h t=>.cons (k _ _ h) (t.mono k)
theorem a6h.len:∀ {as:List α} {bs:List β},a6h R as bs->as.length=bs.length
 | _,_,.nil=>rfl
 | _,_,.cons _ t=>by rw [List.length_cons,List.length_cons,t.len]
theorem a6h.get:∀ {as:List α} {bs:List β},a6h R as bs->∀ {i:Nat} {a:α},as[i]? = some a->∃ b,bs[i]? = some b/\R a b
 | _,_,.nil,_,_,e=>by cases e
 | _,_,.cons h t,0,_,e=>by cases e; exact ⟨_,rfl,h⟩
 | _,_,.cons _ t,i + 1,_,e=>t.get (i:=i) (by simpa using e)
theorem a6h.app:∀ {as:List α} {bs:List β},a6h R as bs->a6h R cs ds->a6h R (as ++ cs) (bs ++ ds)
 | _,_,.nil,h=>h
 | _,_,.cons x t,h=>.cons x (t.app h)
theorem a6h.snoc {a:α}{b:β}(h:a6h R as bs)(x:R a b):a6h R (as ++ [a]) (bs ++ [b]):=h.app (.cons x .nil)
theorem a6h.take:∀ {as:List α} {bs:List β},a6h R as bs->∀ i,a6h R (as.take i) (bs.take i)
 | _,_,.nil,i=>by rw [List.take_nil,List.take_nil]; exact .nil
 | _,_,.cons _ _,0=>.nil
 | _,_,.cons x t,i + 1=>.cons x (t.take i)
theorem a6h.drop:∀ {as:List α} {bs:List β},a6h R as bs->∀ i,a6h R (as.drop i) (bs.drop i)
 | _,_,.nil,i=>by rw [List.drop_nil,List.drop_nil]; exact .nil
 | _,_,.cons x t,0=>.cons x t
 | _,_,.cons _ t,i + 1=>t.drop i
end
abbrev refs (as:List Addr):List V:=as.map V.ref
theorem But.of {f:Addr}{H H1 H':Hp}(s:a2c H H1)(h:But f H1 H'):But f H H':=fun c o hc e=>h c o hc (s c o e)
section
variable {K:PySem.W.Frag}{H:Hp}{Q:VK}{a b:Addr}{as bs:List Addr}{ds:List Dd}
end
theorem cut_takeV (xs:List V)(k:Nat):d3s xs none (some (k:Int)) = xs.take k:=by
 unfold d3s;rw [HT.sIx_none,HT.sIx_nat,List.drop_zero,Nat.sub_zero,List.take_eq_take_iff];omega
theorem cut_dropV (xs:List V)(k:Nat):d3s xs (some (k:Int)) none=xs.drop k:=by
 unfold d3s;rw [HT.sIx_none,HT.sIx_nat]
 by_cases h:k <= xs.length
 ·rw [Nat.min_eq_left h,List.take_of_length_le (by rw [List.length_drop]; exact Nat.le_refl _)]
 ·rw [Nat.min_eq_right (by omega),List.drop_of_length_le (Nat.le_refl _),List.drop_of_length_le (by omega:xs.length <= k),List.take_nil]
theorem a3y {as:List Addr}{i:Nat}{x:V}(h:(refs as)[i]? = some x):∃ a,as[i]? = some a/\x=.ref a:=by
 unfold refs at h;rw [List.getElem?_map] at h
 cases e:as[i]? with
 | none=>rw [e] at h; cases h
 | some a=>rw [e] at h; exact ⟨a,rfl,(Option.some.inj h).symm⟩
theorem a1a (as:List Addr):(refs as).length=as.length:=List.length_map _
end Tw
namespace L2
open PySem PySem.Spec PyProof.Rows
section
variable {K:PySem.W.Frag}{a:Addr}{xs:List V}{tl:TE}{tt:TT}{te:TE}{Q:VK}{σ:St}{H:Hp}
def sCompL (K:PySem.W.Frag)(tt:TT)(te:TE)(σ:St)(Q:VK):V->Hp->Prop:=fun x H=>∃ a,x=.ref a/\(∃ xs,SqL K H a xs)/\∃ W:Nat->Nat->List V->Hp->Prop,(∃ m,W 0 m [] H)/\∀ i m ys H,W i m ys H->((Itl K a).stop i H/\∀ p,H p=none->Q (.ref p) (upd H p (.lst ys)))\/
   ((Itl K a).go i H/\ys.length < sizeLine/\∃ N:List V->Hp->Prop,(∀ ys' H',N ys' H'->∃ m',m' < m/\W (i + 1) m' ys' H')/\
    ∀ x H',(Itl K a).yld i H x H'->tt (some x :: σ) H' fun b H2=>if b=true then te (some x :: σ) H2 fun y H3=>N (ys ++ [y]) H3 else N ys H2)
theorem st_cpE (h:tl σ H (sCompL K tt te σ Q)):tComp (iList K tl) tt te σ H Q:=h
theorem st_cpAt (s:SqL K H a xs)(Pv:Nat->List V->Hp->Prop)(hn:xs.length <= 1000)(h0:Pv 0 [] H)(hl:∀ i ys H,Pv i ys H->ys.length <= i)(hk:∀ i ys H,Pv i ys H->SqL K H a xs)
  (hs:∀ i x ys H,xs[i]? = some x->Pv i ys H->tt (some x :: σ) H fun b H2=>if b=true then te (some x :: σ) H2 fun y H3=>Pv (i + 1) (ys ++ [y]) H3 else Pv (i + 1) ys H2)
  (hd:∀ ys H,Pv xs.length ys H->∀ p,H p=none->Q (.ref p) (upd H p (.lst ys))):sCompL K tt te σ Q (.ref a) H:=⟨a,rfl,⟨xs,s⟩,d8j Pv hn h0 hl hk hs hd⟩
end
end L2
namespace Tw
open PySem L2
def Rt (K:PySem.W.Frag)(H:Hp)(a:Addr)(r:Row):Prop:=H a=some (.tup r.V)
def rD (r:Row):PyData:=.tuple (r.V.map dV)
theorem row_okV (r:Row):r.V.all okV=true:=rfl
theorem dvs_rw {K:PySem.W.Frag}{H:Hp}:∀ {as:List Addr} {rs:List Row},a6h (Rt K H) as rs->DVs K H (refs as) (rs.map rD)
 | _,_,.nil=>.nil
 | _,_,.cons h t=>.cons (.tup (SqT.of h) (b9e (row_okV _))) (dvs_rw t)
theorem lay_rw:∀ rs:List Row,PyData.canLayAll0 (rs.map rD) = true
 | []=>rfl
 | d :: r=>by
  have h1:(rD d).canLay0=true:=by
   unfold rD;rw [PyData.canLay0];exact d0x (row_okV _)
  simp [PyData.canLayAll0,h1,lay_rw r]
theorem depth_rw:∀ rs:List Row,PyData.depthAll (rs.map rD) <= 1
 | []=>by simp [PyData.depthAll]
 | d :: r=>by
  have h1:(rD d).depth <= 1:=by
   unfold rD;simp only [PyData.depth,b7g];omega
  have h2:=depth_rw r;simp only [List.map_cons,PyData.depthAll];omega
theorem shaped_rw (rs:List Row):SeqAt.shaped (.list (rs.map rD)) = true:=by
 have h:=depth_rw rs;unfold SeqAt.shaped;rw [PyData.canLay0,PyData.depth,lay_rw,Bool.true_and,decide_eq_true_eq];omega
section
variable {K:PySem.W.Frag}{H:Hp}{Q:VK}{a b:Addr}{as bs:List Addr}{rs:List Row}
end
theorem Rt.same {K:PySem.W.Frag}{H H':Hp}{a:Addr}{r:Row}(s:a2c H H')(h:Rt K H a r):Rt K H' a r:=s _ _ h
theorem a5a (as:List Addr)(a:Addr):refs as ++ [.ref a] = refs (as ++ [a]):=by unfold refs; rw [List.map_append]; rfl
theorem none_of {H H':Hp}{p:Addr}(s:a2c H H')(h:H' p=none):H p=none:=by
 cases e:H p with
 | none=>rfl
 | some o=>rw [s _ _ e] at h; cases h
end Tw
namespace L2
open PySem PySem.Spec PyProof.Rows
variable {elts:List Expr}{kk:Nat}{tpos:Pos}
def ItEn (K:PySem.W.Frag)(a:Addr)(n:Nat):It:=
 ⟨fun i H=>∃ xs x,SqL K H a xs/\xs.length=n/\xs[i]? = some x,fun i H x H'=>∃ T v,H T=none/\x=.ref T/\(∀ xs,SqL K H a xs->xs[i]? = some v)/\H' = upd H T (.tup [.int (i:Int),v]),fun i H=>∃ xs,SqL K H a xs/\xs.length=n/\n <= i⟩
theorem Inv.list_ne {X:Cx}{pins:List (Addr × Obj)}{σ:St}{H:Hp}{s:Shared}(I:Inv X pins σ H s){fp:List Addr}(hf:∀ b ∈ fp,FpOk X pins H b){a:Addr}{xs:List V}(hq:SqL X.K H a xs):∀ b ∈ fp,a ≠ b:=fun b hb z=>by
 subst z;obtain ⟨f0,_,_,f3,_⟩:=hf a hb
 rcases hq with (h | ⟨o,h⟩) | ⟨o,_,_,h,_⟩
 ·rw [f0] at h; cases h
 ·rw [f0] at h; cases h
 ·have e:=I.ok.mod.kin a o h
  rcases f3 with q | q
  ·exact I.ok.noex a o e q
  ·exact Nat.not_le.mpr (Nat.lt_of_lt_of_le (Heap.lt_size e) I.ok.bsz) q
theorem turn_enumL {P:Program}{w:World}{K:PySem.W.Frag}(a e it:Addr)(hne:e ≠ it)(n:Nat) :
  Turn P w K (.Tuple elts kk tpos) (ItEn K a n) [e,it] e (fun i h=>((∃ old,IsEnum h e it i old)/\h.IsListIter it a i)/\i <= n) where
 mem:=by simp
 obj:=fun i h st b hb=>by
  rcases List.mem_cons.mp hb with r | r
  ·subst r;obtain ⟨⟨⟨old,q⟩,_⟩,_⟩:=st
   exact ⟨_,q,fun v z=>by
    have z':Data.fields _=Data.cell v:=z
    cases z'⟩
  ·have r':b=it:=by simpa using r
   subst r';obtain ⟨⟨_,⟨o,q,c,d⟩⟩,_⟩:=st;exact ⟨o,q,fun v q=>by rw [d] at q; cases q⟩
 keep:=fun i h h' st k=>by
  obtain ⟨⟨⟨old,q⟩,⟨o,q2,r⟩⟩,l⟩:=st;exact ⟨⟨⟨old,k e (by simp) _ q⟩,⟨o,k it (by simp) o q2,r⟩⟩,l⟩
 item:=by
  intro X hP hw hK hc i pins s σ H E I hf st hg;subst hP hw hK;obtain ⟨xs,x0,hq,hn,hx⟩:=hg;obtain ⟨its,rv,pl,hz⟩:=I.list hq;have hl:=rv.length
  have hil:i < its.toArray.size:=by
   have:=(List.getElem?_eq_some_iff.mp hx).1;rw [List.size_toArray];omega
  have al:=I.list_ne hf hq;have D:=Draws.list (prog:=X.prog) (w:=X.w) (A:=X.A.in1) (I.ok.hd hc) it a (al it (by simp)) its.toArray;have W:=WalksT.enumerateD (A:=X.A) D e hne (by simp only [List.mem_cons,List.not_mem_nil,or_false,not_or]; exact ⟨hne,Ne.symm (al e (by simp))⟩) (by simp);refine W.item i s _ _ hil ⟨st.1.1,st.1.2,pl.isList⟩ fun T vals h' tk hv hT htup mid kk'=>?_;obtain ⟨t1,u,hu,rfl⟩:=hv;obtain ⟨u0,hu0,ru⟩:=rv.get hx
  have eu:u=u0:=by
   have h1:its[i]? = some u:=by simpa using hu
   rw [hu0] at h1;exact (Option.some.inj h1).symm
  subst eu;refine ⟨_,rfl,W.go elts kk tpos i T _ _ _ mid fun h2 st2 k2=>?_⟩;have hTw:=W.apart i T _ mid;have hH:H T=none:=I.hok.fresh hT;have kept:∀ b o,b ∉ [e,it]->s.heap.get? b=some o->h2.get? b=some o:=fun b o hb q=>k2 b o hb (kk' b o hb q)
  have ntr:∀ b v,H b=some v->b ∉ [e,it]:=fun b v q hb=>by
   have:=(hf b (by simpa using hb)).1;rw [q] at this; cases this
  have bT:∀ b o,s.heap.get? b=some o->b ≠ T:=fun b o q=>Nat.ne_of_lt (Nat.lt_of_lt_of_le (Heap.lt_size q) hT);obtain ⟨oT,eT,cT,nT,dT⟩:=htup;have eT2:=k2 T oT hTw eT
  have un:Un (frs X.stack) [e,it] H (upd H T (.tup [.int (i:Int),x0])) s.heap h2:=
   ⟨fun b o q _ _ n3=>kept b o n3 q,fun b o q _ _ n3=>⟨o.slots,kept b o n3 q⟩,fun b o q n _=>by rw [a0q (bT b o q)]; exact n,fun b o q n3=>⟨o,kept b o n3 q⟩,
    fun b xs q=>by rw [a0q (a0n q hH)]; exact q,fun b o v q=>by rw [a0q (a0n q hH)]; exact q,fun b ps q=>⟨#[],by rw [a0q (a0n q hH),q]; simp⟩⟩
  have hok:HOk X.prog X.w (upd H T (.tup [.int (i:Int),x0])) h2:=fun b v q=>by
   by_cases hb:b=T
   ·subst hb;rw [a0c] at q; cases q;exact ⟨Nat.le_of_lt (a6d (show (2:Nat) <= 1000 by decide)),[.int (i:Int) t1,u],.cons ⟨_,rfl⟩ (.cons ru .nil),oT,eT2,cT,nT,dT⟩
   ·rw [a0q hb] at q;refine (I.hok b v q).stay (fun c' v' hc2 q'=>?_) (fun c' q'=>by rw [a0q (a0n q' hH)]; exact q') fun c' xs q'=>by rw [a0q (a0n q' hH)]; exact q'
    rcases hc2 with r | r
    ·subst r; exact kept _ _ (ntr _ _ q) q'
    ·exact kept _ _ (ntr _ _ r) q'
  refine ⟨.ref T,_,I.call' (s':={ s with heap:=h2,toks:=tk }) rfl un hok I.bare (fun b hb=>?_),rfl,⟨T,x0,hH,rfl,fun ys hy=>by rw [I.list_inj hy hq]; exact hx,rfl⟩,⟨⟨st2.1,st2.2.1⟩,by rw [List.size_toArray] at hil; omega⟩,fun b hb=>?_⟩
  ·obtain ⟨f0,f1,f2,f3,f4,f5⟩:=hf b hb;exact ⟨f3,f1,f4,f5⟩
  ·have hbT:b ≠ T:=fun q=>hTw (by rw [<- q]; exact hb);rw [a0q hbT]; exact (hf b hb).1
 done:=by
  intro X hP hw hK hc i pins s σ H E I hf st hg;subst hP hw hK;obtain ⟨xs,hq,hn,hg⟩:=hg;obtain ⟨its,rv,pl,hz⟩:=I.list hq;have hl:=rv.length;have al:=I.list_ne hf hq;have D:=Draws.list (prog:=X.prog) (w:=X.w) (A:=X.A.in1) (I.ok.hd hc) it a (al it (by simp)) its.toArray;have W:=WalksT.enumerateD (A:=X.A) D e hne (by simp only [List.mem_cons,List.not_mem_nil,or_false,not_or]; exact ⟨hne,Ne.symm (al e (by simp))⟩) (by simp);have ei:i=its.toArray.size:=by have:=st.2; rw [List.size_toArray]; omega
  refine W.done s _ _ (ei ▸ ⟨st.1.1,st.1.2,pl.isList⟩) fun h2 tk kk'=>⟨rfl,?_⟩
  have ntr:∀ b v,H b=some v->b ∉ [e,it]:=fun b v q hb=>by
   have:=(hf b (by simpa using hb)).1;rw [q] at this; cases this
  have un:Un (frs X.stack) [e,it] H H s.heap h2:=
   ⟨fun b o q _ _ n3=>kk' b o n3 q,fun b o q _ _ n3=>⟨o.slots,kk' b o n3 q⟩,fun b o q n _=>n,fun b o q n3=>⟨o,kk' b o n3 q⟩,fun _ _ q=>q,fun _ _ _ q=>q,fun b ps q=>⟨#[],by rw [q]; simp⟩⟩
  have hok:HOk X.prog X.w H h2:=fun b v q=>by
   refine (I.hok b v q).stay (fun c' v' hc2 q'=>?_) (fun _ q'=>q') fun _ _ q'=>q'
   rcases hc2 with r | r
   ·subst r; exact kk' _ _ (ntr _ _ q) q'
   ·exact kk' _ _ (ntr _ _ r) q'
  exact I.call' (s':={ s with heap:=h2,toks:=tk }) rfl un hok I.bare fun b hb=>by
   obtain ⟨f0,f1,f2,f3,f4,f5⟩:=hf b hb;exact ⟨f3,f1,f4,f5⟩
 self:=fun _ _ _ _ _ st h=>by
  obtain ⟨⟨⟨old,q⟩,_⟩,_⟩:=st;exact wpAny_pyIter_enum q h
section
variable {X:Cx}{tg:Expr}
def iEnumL (K:PySem.W.Frag)(ta:TA):TI:=fun σ H R=>ta σ H fun vs H1=>∃ a xs,vs=[.ref a]/\SqL K H1 a xs/\R (ItEn K a xs.length) H1
theorem boot_enumL:bootBuiltins "enumerate" = some (.type "enumerate"):=by decide +kernel
theorem pi_enumL {a:Expr}{ta:TA}{p pos:Pos}(hg:Gl X "enumerate")(hm:X.mg "enumerate" = none)(ha:PA X [a] ta)(hs:starEach [a] X.env=[(false,eval a X.env)]:=by rfl) :
  PI X (.Tuple elts kk tpos) (.Call (.Name "enumerate" p) [a] [] pos) (iEnumL X.K ta):=by
 intro pins s σ H R I h;refine Call_ (ld_blt I hg hm boot_enumL (PyProof.Rows.callWith_type1 (thn (ha pos pins s σ H _ I h) fun us s1 ⟨vs,H1,I1,r1,q1⟩=>?_) hs rfl));obtain ⟨b,xs,rfl,hq,q⟩:=q1;obtain ⟨u,rfl,ru⟩:=a6q.one r1;cases ru;obtain ⟨its,rv,pl,hz⟩:=I1.list hq;refine call_enumerate_list pl.isList fun h' he hit hsz hk=>?_;refine wpAny_pyIter_enum he ?_;refine ⟨s1.heap.objs.size + 1,[s1.heap.objs.size + 1,s1.heap.objs.size],_,_,H1,rfl,I1.kept (t':=s1.toks) hk,turn_enumL b _ _ (Nat.succ_ne_self _) xs.length,⟨⟨⟨_,he⟩,hit⟩,Nat.zero_le _⟩,fun c hb=>?_,q⟩
 have hb':s1.heap.objs.size <= c:=by
  rcases List.mem_cons.mp hb with r | r
  ·rw [r]; exact Nat.le_succ _
  ·have:c=s1.heap.objs.size:=by simpa using r
   rw [this]; exact Nat.le_refl _
 exact I1.fpOk hb' (I1.hok.fresh hb')
end
section
variable {K:PySem.W.Frag}{a:Addr}{xs:List V}{g:TG}{tb:TS}{D:c4b}{σ:St}{H:Hp}
end
end L2
namespace Tw
open PySem L2 in
theorem row_eqv (r s:Row):PyData.eqv (rD r) (rD s) = true ↔ r=s:=by
 obtain ⟨a,b,c⟩:=r;obtain ⟨a',b',c'⟩:=s;simp only [rD,Row.V,List.map_cons,List.map_nil,dV,PyData.eqv,PyData.eqvAll,Bool.and_true,Bool.and_eq_true,Row.mk.injEq,beq_iff_eq,decide_eq_true_eq];omega
open PySem L2 in
theorem rows_eqv:∀ rs ss:List Row,PyData.eqvAll (rs.map rD) (ss.map rD) = true ↔ rs=ss
 | [],[]=>by simp [PyData.eqvAll]
 | [],_ :: _=>by simp [PyData.eqvAll]
 | _ :: _,[]=>by simp [PyData.eqvAll]
 | r :: rs,s :: ss=>by simp only [List.map_cons,PyData.eqvAll,Bool.and_eq_true,row_eqv,rows_eqv rs ss,List.cons.injEq]
section
open PySem L2
variable {K:PySem.W.Frag}{H:Hp}{Q:VK}{a b:Addr}{as bs:List Addr}{rs ss:List Row}{r s:Row}
end
theorem a6h.get' {α β:Type}{R:α->β->Prop}:∀ {as:List α} {bs:List β},a6h R as bs->∀ {i:Nat} {b:β},bs[i]? = some b->∃ a,as[i]? = some a/\R a b
 | _,_,.nil,_,_,e=>by cases e
 | _,_,.cons h t,0,_,e=>by cases e; exact ⟨_,rfl,h⟩
 | _,_,.cons _ t,i + 1,_,e=>t.get' (i:=i) (by simpa using e)
end Tw
namespace L2
open PySem PySem.Spec PyProof.Rows
section
variable {X:Cx}
end
section
variable {K:PySem.W.Frag}{H:Hp}{Q:VK}{l:Addr}{xs:List V}{k:Int}
end
end L2
namespace Tw
open PySem L2
section
variable {K:PySem.W.Frag}{H:Hp}{Q:VK}{a b a1 a2 b1 b2:Addr}{as as' bs bs':List Addr}{ds es:List Dd}
end
theorem cut_intsG (ns:List Int)(lo hi:Nat):∃ ms:List Int,d3s (ns.map V.int) (some (lo:Int)) (some (hi:Int)) = ms.map V.int/\ms.length <= hi - lo:=by
 refine ⟨(ns.drop (min lo ns.length)).take (min hi ns.length - min lo ns.length),?_,by rw [List.length_take,List.length_drop]; omega⟩;unfold d3s;rw [HT.sIx_nat,HT.sIx_nat,List.length_map,List.map_take,List.map_drop]
end Tw
namespace L2
open PySem PySem.Spec PyProof.Rows
section
variable {X:Cx}
end
section
variable {X:Cx}{e:Expr}{lo hi:Option Expr}{st:Expr}{te ts:TE}{tl th:TO}{p2 pos:Pos}
end
section
variable {K:PySem.W.Frag}{a:Addr}{xs:List V}{ta:TA}{tt:TT}{te:TE}{Q:VK}{σ:St}{H:Hp}
theorem st_cpEn (e:∀ P:List V->Hp->Prop,P [.ref a] H->ta σ H P)(s:SqL K H a xs)(Pv:Nat->List V->Hp->Prop)(hn:xs.length <= 1000)(h0:Pv 0 [] H)(hl:∀ i ys H,Pv i ys H->ys.length <= i)(hk:∀ i ys H,Pv i ys H->SqL K H a xs)
  (hs:∀ i x ys H p,xs[i]? = some x->Pv i ys H->H p=none->tt (some (.int (i:Int)) :: some x :: σ) (upd H p (.tup [.int (i:Int),x])) fun b H2=>if b=true then te (some (.int (i:Int)) :: some x :: σ) H2 fun y H3=>Pv (i + 1) (ys ++ [y]) H3 else Pv (i + 1) ys H2)
  (hd:∀ ys H,Pv xs.length ys H->∀ p,H p=none->Q (.ref p) (upd H p (.lst ys))):tComp2 K (iEnumL K ta) tt te σ H Q:=by
 refine e _ ⟨a,xs,rfl,s,fun i m ys H=>m=xs.length - i/\i <= xs.length/\Pv i ys H,⟨xs.length,by simp,Nat.zero_le _,h0⟩,?_⟩;rintro i m ys H ⟨rfl,hi,p⟩;have q:=hk i ys H p
 by_cases hlt:i < xs.length
 ·refine .inr ⟨⟨xs,xs[i],q,rfl,by simp [hlt]⟩,a6d (by have:=hl i ys H p; omega),Pv (i + 1),fun ys' H' p'=>⟨xs.length - (i + 1),by omega,rfl,hlt,p'⟩,fun x H' y=>?_⟩;obtain ⟨T,v,hT,rfl,hv,rfl⟩:=y;exact ⟨T,_,_,rfl,SqT.of a0c,hs i v ys H T (hv xs q) p hT⟩
 ·have e:i=xs.length:=by omega
  subst e;exact .inl ⟨⟨xs,q,rfl,Nat.le_refl _⟩,hd ys H p⟩
end
end L2
namespace Tw
open PySem PySem.Spec L2
section
variable {K:PySem.W.Frag}{H:Hp}{Q:VK}{a b:Addr}{as bs:List Addr}{xs ys:List (List V)}
end
end Tw
namespace L2
open PySem PySem.Spec PyProof.Rows
section
variable {X:Cx}
end
section
variable {X:Cx}
end
section
variable {K:PySem.W.Frag}{tl:TE}{tt:TT}{te:TE}{Q:VK}{σ:St}{H:Hp}{a:Addr}{kvs:List (Key × V)}
end
end L2
namespace PySem
open Sem (wp)
namespace F
end F
section
variable {prog:Program}{w:World}{K:Type} [DecidableEq K]{knd:KeyKind prog w K}{A:Around}{R:Result->Shared->Prop}
end
end PySem
namespace L2
open PySem PySem.Spec PyProof.Rows
section
variable {X:Cx}
end
end L2
namespace L2
open PySem PySem.Spec PyProof.Rows
def CMulV (i j:Int):Prop:=i.natAbs < 2 ^ 300/\j.natAbs < 2 ^ 300
theorem bits300V {k:Int}(h:k.natAbs < 2 ^ 300):Builtin.Int.intBits k <= 300:=by
 unfold Builtin.Int.intBits
 split
 ·exact Nat.zero_le _
 ·rcases Nat.eq_zero_or_pos k.natAbs with z | z
  ·rw [z]; decide
  ·exact (Nat.log2_lt (Nat.ne_of_gt z)).mpr h
theorem d7p {X:Cx}:OpR X (binaryOp .Mult) (rI CMulV fun i j=>.int (i * j)):=opI fun _ _ _ _ _ _ _ hc q=>mul_int q (IntMulOk.of_bits (Nat.le_trans (bits300V hc.1) (by decide)) (Nat.le_trans (bits300V hc.2) (by decide)))
end L2
namespace Tw
open PySem L2
variable {H:Hp}{kvs:List (Key × V)}{K:PySem.W.Frag}
def crs (r q:Row):Nat:=(r.x &&& q.z) ^^^ (r.z &&& q.x)
def trn (r:Row)(b:Nat):Nat:=2 * r.m + 2 * pop (r.z &&& b) + pop (r.x &&& r.z)
def tE (r:Row)(e:Nat × Int × Int):Nat × Int × Int:=(e.1 ^^^ r.x,c0v (trn r e.1) e.2)
theorem wput_keys (ws:Wh)(b:Nat)(p:Int × Int):(wput ws b p).map (·.1) = if ws.any (fun e=>decide (e.1=b)) then ws.map (·.1) else ws.map (·.1) ++ [b]:=by
 unfold wput
 split
 ·rw [List.map_map];apply List.map_congr_left;intro e _;show (if e.1=b then (e.1,p) else e).1=e.1
  split <;> rfl
 ·rw [List.map_append]; rfl
theorem tE_step {r:Row}{ws:Wh}{i:Nat}{e:Nat × Int × Int}(nd:(ws.map (·.1)).Nodup)(h:ws[i]? = some e):(ws.take (i + 1)).map (tE r) = wput ((ws.take i).map (tE r)) (tE r e).1 (tE r e).2:=by
 have ht:ws.take (i + 1) = ws.take i ++ [e]:=by
  rw [List.take_add_one,h]; rfl
 rw [ht,List.map_append,d7u fun f hf=>?_]
 ·rfl
 ·obtain ⟨g,hg,rfl⟩:=List.mem_map.mp hf;intro z;have z':g.1=e.1:=xor_inj z
  have nd2:((ws.take (i + 1)).map (·.1)).Nodup:=by
   rw [List.map_take];exact List.Sublist.nodup (List.take_sublist _ _) nd
  rw [ht,List.map_append,List.nodup_append] at nd2;exact nd2.2.2 g.1 (List.mem_map.mpr ⟨g,hg,rfl⟩) e.1 (by simp) z'
theorem But.tup {f:Addr}{H':Hp}(h:But f H H')(hf:H f=some (.dK kvs)):∀ a xs,SqT K H a xs->SqT K H' a xs:=fun a xs s=>by
 rcases s with (s | ⟨o,s⟩) | s
 ·exact .inl (.inl (h _ _ (c6y s hf (by intro z; cases z)) s))
 ·exact .inl (.inr ⟨o,h _ _ (c6y s hf (by intro z; cases z)) s⟩)
 ·exact .inr s
theorem c4m {a:Addr}{o:Obj}{u:HO}(h:H a=some (.frz o (.dK kvs))):∀ x xs,SqT K H x xs->SqT K (upd H a u) x xs:=fun x xs s=>by
 rcases s with (s | ⟨o',s⟩) | s
 ·exact .inl (.inl (by rw [a0q (c6y s h (by intro z; cases z))]; exact s))
 ·exact .inl (.inr ⟨o',by rw [a0q (c6y s h (by intro z; cases z))]; exact s⟩)
 ·exact .inr s
section
variable {K:PySem.W.Frag}{H:Hp}{Q:VK}{a b:Addr}{kvs kvs2:List (Key × V)}{ws:Wh}
end
end Tw
namespace L2
open PySem PySem.Spec PyProof.Rows
end L2
namespace Tw
open PySem L2
def a9d (K:PySem.W.Frag)(H:Hp)(a:Addr)(ws:Wh):Prop:=∃ kvs,H a=some (.dK kvs)/\WR K H ws kvs
theorem a9d.stay {K:PySem.W.Frag}{H H':Hp}{a:Addr}{ws:Wh}(h:a9d K H a ws)(s:a2c H H'):a9d K H' a ws:=by
 obtain ⟨kvs,h1,h2⟩:=h;exact ⟨kvs,s _ _ h1,h2.stay fun a xs q=>s.tup q⟩
end Tw
namespace L2
open PySem PySem.Spec PyProof.Rows
section
variable {X:Cx}
end
section
variable {X:Cx}
end
section
variable {K:PySem.W.Frag}{tl:TE}{tt:TT}{te:TE}{Q:VK}{σ:St}{H:Hp}{a b:Addr}{kvs:List (Key × V)}{g:TG}{tb:TS}{D:c4b}
end
end L2
namespace Tw
open PySem L2
def gm (p q:Int × Int):Int × Int:=(p.1 * q.1 - p.2 * q.2,p.1 * q.2 + p.2 * q.1)
end Tw
namespace L2
open PySem PySem.Spec PyProof.Rows
section
variable {prog:Program}{w:World}{A:Around}{E:Value->Shared->Prop}{s:Shared}{K:Type} [DecidableEq K]{knd:KeyKind prog w K}{d:Addr}{kvs:List (K × Value)}{ep:Nat}
end
section
variable {X:Cx}
end
end L2
namespace L2
open PySem PySem.Spec PyProof.Rows
section
variable {X:Cx}{pins:List (Addr × Obj)}{σ:St}{H:Hp}{s:Shared}{a b:Addr}{kvs kvs2:List (Key × V)}{f g:Key->PyData}
end
end L2
namespace Tw
open PySem L2
section
variable {K:PySem.W.Frag}{H:Hp}{Q:VK}{ws us:Wh}{kvs:List (Key × V)}{a b:Addr}
theorem dec_pair (p q:Int × Int):decide ([p.1,p.2] = [q.1,q.2]) = decide (p=q):=by
 by_cases h:p=q
 ·subst h;rw [decide_eq_true rfl,decide_eq_true rfl]
 ·rw [decide_eq_false h,decide_eq_false];intro z
  injection z with z1 z2
  injection z2 with z2
  exact h (Prod.ext z1 z2)
end
end Tw
namespace L2
open PySem PySem.Spec PyProof.Rows
variable {H:Hp}{K:PySem.W.Frag}{σ:St}{te:TE}{tt:TT}{Q:VK}
def sCompK (K:PySem.W.Frag)(tt:TT)(te:TE)(σ:St)(Q:VK):V->Hp->Prop:=fun x H=>∃ a,x=.ref a/\(∃ xs,SqL K H a xs)/\∃ W:Nat->Nat->List V->Hp->Prop,(∃ m,W 0 m [] H)/\∀ i m ys H,W i m ys H->((Itl K a).stop i H/\∀ p,H p=none->Q (.ref p) (upd H p (.lst ys)))\/
   ((Itl K a).go i H/\ys.length < sizeLine/\∃ N:List V->Hp->Prop,(∀ ys' H',N ys' H'->∃ m',m' < m/\W (i + 1) m' ys' H')/\
    ∀ x H',(Itl K a).yld i H x H'->tt (some x :: σ) H' fun b H2=>if b=true then te (some x :: σ) H2 fun y H3=>N (ys ++ [y]) H3 else N ys H2)
theorem st_cqE {tl:TE}(h:tl σ H (sCompK K tt te σ Q)):tComp (iList K tl) tt te σ H Q:=h
theorem c9q {a:Addr}{xs:List V}(s:SqL K H a xs)(Pv:Nat->List V->Hp->Prop)(hn:xs.length <= 1000)(h0:Pv 0 [] H)(hl:∀ i ys H,Pv i ys H->ys.length <= i)(hk:∀ i ys H,Pv i ys H->SqL K H a xs)
  (hs:∀ i x ys H,xs[i]? = some x->Pv i ys H->tt (some x :: σ) H fun b H2=>if b=true then te (some x :: σ) H2 fun y H3=>Pv (i + 1) (ys ++ [y]) H3 else Pv (i + 1) ys H2)
  (hd:∀ ys H,Pv xs.length ys H->∀ p,H p=none->Q (.ref p) (upd H p (.lst ys))):sCompK K tt te σ Q (.ref a) H:=⟨a,rfl,⟨xs,s⟩,d8j Pv hn h0 hl hk hs hd⟩
end L2
namespace Tw
open PySem L2
variable {vs:List Nat}{x:Nat}
def a5g:List Nat->Nat->Nat
 | [],_=>0
 | v :: vs,w=>(if w.testBit 0=true then v else 0) ^^^ a5g vs (w / 2)
theorem b8s:∀ vs:List Nat,a5g vs 0=0
 | []=>rfl
 | v :: vs=>by
  show (if (0:Nat).testBit 0=true then v else 0) ^^^ a5g vs (0 / 2) = 0;rw [Nat.zero_div,b8s vs,if_neg (by decide)];rfl
theorem if_xor (a b:Bool)(v:Nat):(if (a ^^ b) = true then v else 0) = (if a=true then v else 0) ^^^ (if b=true then v else 0):=by
 cases a <;> cases b <;> simp
theorem x4 (a b c d:Nat):(a ^^^ b) ^^^ (c ^^^ d) = (a ^^^ c) ^^^ (b ^^^ d):=by
 rw [Nat.xor_assoc,Nat.xor_assoc]
 congr 1
 rw [<- Nat.xor_assoc,<- Nat.xor_assoc,Nat.xor_comm b c]
theorem b9b:∀ (vs:List Nat) (a b:Nat),a5g vs (a ^^^ b) = a5g vs a ^^^ a5g vs b
 | [],_,_=>(Nat.xor_self 0).symm
 | v :: vs,a,b=>by
  show (if (a ^^^ b).testBit 0=true then v else 0) ^^^ a5g vs ((a ^^^ b) / 2) = _;rw [Nat.testBit_xor,if_xor,show (a ^^^ b) / 2=(a / 2) ^^^ (b / 2) from Nat.xor_div_two,b9b vs];exact x4 _ _ _ _
theorem b6x:∀ (vs:List Nat) (v w:Nat),a5g (vs ++ [v]) w=a5g vs w ^^^ (if w.testBit vs.length=true then v else 0)
 | [],v,w=>by
  show (if w.testBit 0=true then v else 0) ^^^ 0=0 ^^^ _;rw [Nat.xor_zero,Nat.zero_xor];rfl
 | u :: vs,v,w=>by
  show (if w.testBit 0=true then u else 0) ^^^ a5g (vs ++ [v]) (w / 2) = ((if w.testBit 0=true then u else 0) ^^^ a5g vs (w / 2)) ^^^ _;rw [b6x vs v (w / 2),Nat.xor_assoc]
  congr 2
  rw [List.length_cons,Nat.testBit_succ]
theorem xsel_pow:∀ {vs:List Nat} {k v:Nat},vs[k]? = some v->a5g vs (2 ^ k) = v
 | [],_,_,h=>by cases h
 | u :: vs,0,v,h=>by
  obtain rfl:u=v:=Option.some.inj h;show (if (2 ^ 0:Nat).testBit 0=true then u else 0) ^^^ a5g vs ((2 ^ 0) / 2) = u;rw [show (2 ^ 0:Nat) / 2=0 from rfl,b8s,Nat.xor_zero];rfl
 | u :: vs,k + 1,v,h=>by
  show (if (2 ^ (k + 1):Nat).testBit 0=true then u else 0) ^^^ a5g vs ((2 ^ (k + 1)) / 2) = v;rw [show (2 ^ (k + 1):Nat) / 2=2 ^ k by rw [Nat.pow_succ]; omega,xsel_pow (show vs[k]? = some v from h),show (2 ^ (k + 1):Nat).testBit 0=false by rw [Nat.testBit_zero,Nat.pow_succ]; simp];simp
theorem d6d {j:Nat}:∀ {vs:List Nat} (w:Nat),(∀ v ∈ vs,v.testBit j=false)->(a5g vs w).testBit j=false
 | [],_,_=>Nat.zero_testBit _
 | v :: vs,w,h=>by
  show (_ ^^^ a5g vs (w / 2)).testBit j=false;rw [Nat.testBit_xor,d6d (w / 2) fun u hu=>h u (List.mem_cons_of_mem _ hu)];have:=h v List.mem_cons_self
  split <;> simp [this]
theorem d7g {n:Nat}:∀ {vs:List Nat} (w:Nat),(∀ v ∈ vs,v < 2 ^ n)->a5g vs w < 2 ^ n
 | [],_,_=>Nat.two_pow_pos n
 | v :: vs,w,h=>by
  refine Nat.xor_lt_two_pow ?_ (d7g (w / 2) fun u hu=>h u (List.mem_cons_of_mem _ hu))
  split
  ·exact h v List.mem_cons_self
  ·exact Nat.two_pow_pos n
structure Sm where
 j:Nat
 t:Nat
 p:Nat
def red:List Sm->Nat->Nat->Nat × Nat
 | [],l,w=>(l,w)
 | s :: r,l,w=>if l.testBit s.j=true then red r (l ^^^ s.t) (w ^^^ s.p) else red r l w
def Tot (ss:List Sm)(x:Nat):Prop:=∃ m,a5g (ss.map Sm.t) m=x
theorem Tot.zero (ss:List Sm):Tot ss 0:=⟨0,b8s _⟩
theorem Tot.xor {ss:List Sm}{y:Nat}(a:Tot ss x)(b:Tot ss y):Tot ss (x ^^^ y):=by
 obtain ⟨m,rfl⟩:=a;obtain ⟨k,rfl⟩:=b;exact ⟨m ^^^ k,b9b _ _ _⟩
theorem Tot.mem {ss:List Sm}{s:Sm}(h:s ∈ ss):Tot ss s.t:=by
 obtain ⟨k,hk⟩:=List.getElem?_of_mem h;exact ⟨2 ^ k,xsel_pow (by rw [List.getElem?_map,hk]; rfl)⟩
theorem Tot.snoc {ss:List Sm}(s:Sm)(h:Tot ss x):Tot (ss ++ [s]) x:=by
 obtain ⟨m,rfl⟩:=h;refine ⟨m % 2 ^ ss.length,?_⟩;rw [List.map_append,List.map_singleton,b6x,List.length_map,Nat.testBit_mod_two_pow];simp only [Nat.lt_irrefl,decide_false,Bool.false_and,Bool.false_eq_true,if_false,Nat.xor_zero];rw [<- List.length_map (as:=ss) (f:=Sm.t)];generalize ss.map Sm.t=vs
 induction vs generalizing m with
 | nil=>rfl
 | cons v vs ih=>
  show (if (m % 2 ^ (vs.length + 1)).testBit 0=true then v else 0) ^^^ a5g vs (m % 2 ^ (vs.length + 1) / 2) = (if m.testBit 0=true then v else 0) ^^^ a5g vs (m / 2);have h1:(m % 2 ^ (vs.length + 1)).testBit 0=m.testBit 0:=by rw [Nat.testBit_mod_two_pow]; simp
  have h2:m % 2 ^ (vs.length + 1) / 2=(m / 2) % 2 ^ vs.length:=by
   rw [Nat.pow_succ,Nat.mul_comm,Nat.mod_mul_right_div_self]
  rw [h1,h2,ih]
structure SpOk (vs:List Nat)(ss:List Sm):Prop where
 tot:∀ s ∈ ss,s.t=a5g vs s.p
 lt:∀ s ∈ ss,s.p < 2 ^ vs.length
 bit:∀ s ∈ ss,s.t.testBit s.j=true
 ord:ss.Pairwise fun a b=>b.t.testBit a.j=false
 cov:∀ w,Tot ss (a5g vs w)
theorem red_ok {vs:List Nat}:∀ {ss:List Sm} {l w:Nat},(∀ s ∈ ss,s.t=a5g vs s.p)->(∀ s ∈ ss,s.p < 2 ^ vs.length)->∃ p,p < 2 ^ vs.length/\(red ss l w).1=l ^^^ a5g vs p/\(red ss l w).2=w ^^^ p/\Tot ss (a5g vs p)
 | [],l,w,_,_=>⟨0,Nat.two_pow_pos _,by rw [b8s,Nat.xor_zero]; rfl,by rw [Nat.xor_zero]; rfl,by rw [b8s]; exact Tot.zero _⟩
 | s :: r,l,w,h1,h2=>by
  have g1:∀ t ∈ r,t.t=a5g vs t.p:=fun t ht=>h1 t (List.mem_cons_of_mem _ ht);have g2:∀ t ∈ r,t.p < 2 ^ vs.length:=fun t ht=>h2 t (List.mem_cons_of_mem _ ht)
  have up:∀ {x},Tot r x->Tot (s :: r) x:=fun {x} ⟨m,e⟩=>⟨2 * m,by
   show (if (2 * m).testBit 0=true then s.t else 0) ^^^ a5g (r.map Sm.t) (2 * m / 2) = x;rw [Nat.mul_div_cancel_left _ (by decide),e,show (2 * m).testBit 0=false by simp [Nat.testBit_zero]]
   simp⟩
  unfold red
  split
  ·obtain ⟨p,a1,a2,a3,a4⟩:=red_ok (l:=l ^^^ s.t) (w:=w ^^^ s.p) g1 g2;refine ⟨s.p ^^^ p,Nat.xor_lt_two_pow (h2 s List.mem_cons_self) a1,?_,?_,?_⟩
   ·rw [a2,b9b,<- h1 s List.mem_cons_self,Nat.xor_assoc]
   ·rw [a3,Nat.xor_assoc]
   ·rw [b9b,<- h1 s List.mem_cons_self];exact (Tot.mem List.mem_cons_self).xor (up a4)
  ·obtain ⟨p,a1,a2,a3,a4⟩:=red_ok (l:=l) (w:=w) g1 g2;exact ⟨p,a1,a2,a3,up a4⟩
theorem c3x {j:Nat}:∀ {ss:List Sm} {l w:Nat},(∀ s ∈ ss,s.t.testBit j=false)->l.testBit j=false->((red ss l w).1).testBit j=false
 | [],_,_,_,h=>h
 | s :: r,l,w,h1,h=>by
  unfold red
  split
  ·exact c3x (fun t ht=>h1 t (List.mem_cons_of_mem _ ht)) (by rw [Nat.testBit_xor,h,h1 s List.mem_cons_self]; rfl)
  ·exact c3x (fun t ht=>h1 t (List.mem_cons_of_mem _ ht)) h
theorem c8b:∀ {ss:List Sm} {l w:Nat},(∀ s ∈ ss,s.t.testBit s.j=true)->ss.Pairwise (fun a b=>b.t.testBit a.j=false)->∀ s ∈ ss,((red ss l w).1).testBit s.j=false
 | [],_,_,_,_,s,hs=>by cases hs
 | u :: r,l,w,h1,h2,s,hs=>by
  obtain ⟨o1,o2⟩:=List.pairwise_cons.1 h2;have g1:∀ t ∈ r,t.t.testBit t.j=true:=fun t ht=>h1 t (List.mem_cons_of_mem _ ht);unfold red
  rcases List.mem_cons.1 hs with rfl | hs
  ·split
   ·rename_i hb;exact c3x o1 (by rw [Nat.testBit_xor,hb,h1 s List.mem_cons_self]; rfl)
   ·rename_i hb;exact c3x o1 (by simpa using hb)
  ·split
   ·exact c8b g1 o2 s hs
   ·exact c8b g1 o2 s hs
theorem tot_zero:∀ {ss:List Sm} {x:Nat},(∀ s ∈ ss,s.t.testBit s.j=true)->ss.Pairwise (fun a b=>b.t.testBit a.j=false)->Tot ss x->(∀ s ∈ ss,x.testBit s.j=false)->x=0
 | [],x,_,_,⟨m,e⟩,_=>e.symm
 | u :: r,x,h1,h2,⟨m,e⟩,h3=>by
  obtain ⟨o1,o2⟩:=List.pairwise_cons.1 h2;have e':(if m.testBit 0=true then u.t else 0) ^^^ a5g (r.map Sm.t) (m / 2) = x:=e
  have hy:(a5g (r.map Sm.t) (m / 2)).testBit u.j=false:=d6d _ fun v hv=>by
   obtain ⟨t,ht,rfl⟩:=List.mem_map.1 hv;exact o1 t ht
  have hx:=h3 u List.mem_cons_self
  by_cases hb:m.testBit 0=true
  ·rw [if_pos hb] at e';rw [<- e',Nat.testBit_xor,hy,h1 u List.mem_cons_self] at hx;cases hx
  ·rw [if_neg hb,Nat.zero_xor] at e';exact tot_zero (fun t ht=>h1 t (List.mem_cons_of_mem _ ht)) o2 ⟨m / 2,e'⟩ fun s hs=>h3 s (List.mem_cons_of_mem _ hs)
theorem SpOk.nil:SpOk [] []:=⟨fun _ h=>(nomatch h),fun _ h=>(nomatch h),fun _ h=>(nomatch h),.nil,fun w=>⟨0,rfl⟩⟩
theorem SpOk.take {ss:List Sm}(h:SpOk vs ss)(v j:Nat)(hj:(red ss v (2 ^ vs.length)).1 ≠ 0->(red ss v (2 ^ vs.length)).1.testBit j=true) :
  SpOk (vs ++ [v]) (if (red ss v (2 ^ vs.length)).1 ≠ 0 then ss ++ [⟨j,(red ss v (2 ^ vs.length)).1,(red ss v (2 ^ vs.length)).2⟩] else ss):=by
 obtain ⟨p,p1,p2,p3,p4⟩:=red_ok (l:=v) (w:=2 ^ vs.length) h.tot h.lt;have hf:=c8b (l:=v) (w:=2 ^ vs.length) h.bit h.ord;generalize hl:(red ss v (2 ^ vs.length)).1=l at *
 generalize hw:(red ss v (2 ^ vs.length)).2=w at *
 have hp:p.testBit vs.length=false:=Nat.testBit_lt_two_pow p1
 have up:∀ q,q < 2 ^ vs.length->a5g (vs ++ [v]) q=a5g vs q:=fun q hq=>by
  rw [b6x,Nat.testBit_lt_two_pow hq];simp
 have ol:∀ s ∈ ss,s.t=a5g (vs ++ [v]) s.p:=fun s hs=>by rw [up _ (h.lt s hs)]; exact h.tot s hs
 have ll:∀ s ∈ ss,s.p < 2 ^ (vs ++ [v]).length:=fun s hs=>Nat.lt_of_lt_of_le (h.lt s hs) (Nat.pow_le_pow_right (by decide) (by simp));have hv:v=l ^^^ a5g vs p:=by rw [p2,Nat.xor_assoc,Nat.xor_self,Nat.xor_zero]
 have cov:∀ (ss':List Sm),(∀ x,Tot ss x->Tot ss' x)->Tot ss' v->∀ q,Tot ss' (a5g (vs ++ [v]) q):=fun ss' g1 g2 q=>by
  rw [b6x];refine (g1 _ (h.cov q)).xor ?_
  split
  ·exact g2
  ·exact Tot.zero _
 split
 ·rename_i hne;have hwp:w=2 ^ vs.length ^^^ p:=p3
  have hnew:l=a5g (vs ++ [v]) w:=by
   rw [hwp,b9b,up _ p1,b6x]
   have e0:a5g vs (2 ^ vs.length) = 0:=by
    have:∀ (us:List Nat),a5g us (2 ^ us.length) = 0:=fun us=>by
     induction us with
     | nil=>rfl
     | cons u us ih=>
      show (if (2 ^ (us.length + 1):Nat).testBit 0=true then u else 0) ^^^ a5g us ((2 ^ (us.length + 1)) / 2) = 0;rw [show (2 ^ (us.length + 1):Nat) / 2=2 ^ us.length by rw [Nat.pow_succ]; omega,ih,show (2 ^ (us.length + 1):Nat).testBit 0=false by rw [Nat.testBit_zero,Nat.pow_succ]; simp];simp
    exact this vs
   rw [e0,Nat.testBit_two_pow_self,if_pos rfl,Nat.zero_xor];exact p2
  refine ⟨fun s hs=>?_,fun s hs=>?_,fun s hs=>?_,?_,cov _ (fun x hx=>hx.snoc _) ?_⟩
  ·rcases List.mem_append.1 hs with hs | hs
   ·exact ol s hs
   ·rw [List.mem_singleton.1 hs]; exact hnew
  ·rcases List.mem_append.1 hs with hs | hs
   ·exact ll s hs
   ·rw [List.mem_singleton.1 hs];show w < _;rw [hwp,List.length_append,List.length_singleton];exact Nat.xor_lt_two_pow (Nat.pow_lt_pow_right (by decide) (Nat.lt_succ_self _)) (Nat.lt_of_lt_of_le p1 (Nat.pow_le_pow_right (by decide) (Nat.le_succ _)))
  ·rcases List.mem_append.1 hs with hs | hs
   ·exact h.bit s hs
   ·rw [List.mem_singleton.1 hs]; exact hj hne
  ·rw [List.pairwise_append];exact ⟨h.ord,List.pairwise_singleton _ _,fun a ha b hb=>by rw [List.mem_singleton.1 hb]; exact hf a ha⟩
  ·have t1:Tot (ss ++ [⟨j,l,w⟩]) l:=Tot.mem (s:=⟨j,l,w⟩) (by simp);have t2:=t1.xor ((Tot.snoc ⟨j,l,w⟩ p4));rw [hv];exact t2
 ·rename_i hz;have l0:l=0:=by simpa using hz
  refine ⟨ol,ll,h.bit,h.ord,cov _ (fun x hx=>hx) ?_⟩;rw [hv,l0,Nat.zero_xor];exact p4
theorem SpOk.left {ss:List Sm}(h:SpOk vs ss)(x:Nat):(red ss x 0).2 < 2 ^ vs.length/\((red ss x 0).1=0->a5g vs (red ss x 0).2=x)/\((red ss x 0).1 ≠ 0->∀ q,a5g vs q ≠ x):=by
 obtain ⟨p,p1,p2,p3,p4⟩:=red_ok (l:=x) (w:=0) h.tot h.lt;have hf:=c8b (l:=x) (w:=0) h.bit h.ord;rw [Nat.zero_xor] at p3;refine ⟨by rw [p3]; exact p1,fun h0=>?_,fun h0 q e=>h0 ?_⟩
 ·rw [p3];rw [h0] at p2;have:=congrArg (· ^^^ a5g vs p) p2
  simp only [Nat.xor_assoc,Nat.xor_self,Nat.xor_zero,Nat.zero_xor] at this;exact this
 ·refine tot_zero h.bit h.ord ?_ hf;rw [p2];refine Tot.xor ?_ p4;rw [<- e];exact h.cov q
end Tw
namespace Tw
open PySem L2
variable {k:DK}{i j:Nat}
def pb (u:Nat):Bool:=decide (pop u % 2=1)
theorem c3e (u v:Nat):pb (u ^^^ v) = (pb u ^^ pb v):=by
 unfold pb;have h:=b9m u v;have h1:=Nat.mod_two_eq_zero_or_one (pop u);have h2:=Nat.mod_two_eq_zero_or_one (pop v);rw [Nat.add_mod] at h
 rcases h1 with h1 | h1 <;> rcases h2 with h2 | h2 <;> rw [h,h1,h2] <;> decide
theorem c4h:pb 0=false:=by unfold pb; rw [c2f]; rfl
theorem pop_pow (i:Nat):pop (2 ^ i) = 1:=by
 induction i with
 | zero=>rw [b5j,show (2 ^ 0:Nat) / 2=0 from rfl,c2f]
 | succ i ih=>
  have h:(2 ^ (i + 1):Nat) / 2=2 ^ i:=by rw [Nat.pow_succ]; omega
  have h2:(2 ^ (i + 1):Nat) % 2=0:=by rw [Nat.pow_succ]; omega
  rw [b5j,h,ih,h2]
theorem and_pow (u i:Nat):u &&& 2 ^ i=(u.testBit i).toNat * 2 ^ i:=by
 apply Nat.eq_of_testBit_eq;intro q;rw [Nat.testBit_and,Nat.testBit_two_pow,b4n]
 by_cases h:i=q
 ·subst h; simp
 ·simp [h]
theorem d4s (b:Bool)(i:Nat):pb (b.toNat * 2 ^ i) = b:=by
 cases b
 ·simp [c4h]
 ·unfold pb; simp [pop_pow]
theorem b8z (u:Nat)(b:Bool)(i:Nat):u &&& b.toNat * 2 ^ i=(b && u.testBit i).toNat * 2 ^ i:=by
 cases b
 ·simp
 ·rw [Bool.toNat_true,Nat.one_mul,and_pow,Bool.true_and]
theorem c2y (u:Nat)(b:Bool)(i:Nat):b.toNat * 2 ^ i &&& u=(b && u.testBit i).toNat * 2 ^ i:=by rw [Nat.and_comm,b8z]
def a4s (r s:Row):Bool:=pb (r.x &&& s.z) ^^ pb (r.z &&& s.x)
theorem tb_bpow (b:Bool)(i q:Nat):(b.toNat * 2 ^ i).testBit q=(b && decide (i=q)):=by
 cases b
 ·simp
 ·rw [Bool.toNat_true,Nat.one_mul,Nat.testBit_two_pow,Bool.true_and]
theorem actW_symp (hj:k.n=2->i ≠ j)(r s:Row):a4s (c8n k i j r) (c8n k i j s) = a4s r s:=by
 cases k with
 | over=>rfl
 | quarter=>
  simp only [a4s,c8n,a9u,a9t,c3e,b8z,c2y,d4s];generalize r.x.testBit i=a; generalize s.x.testBit i=b; generalize pb (r.x &&& s.z) = p; generalize pb (r.z &&& s.x) = q
  revert a b p q; decide
 | back=>
  simp only [a4s,c8n,a9u,a9t,c3e,b8z,c2y,d4s];generalize r.x.testBit i=a; generalize s.x.testBit i=b; generalize pb (r.x &&& s.z) = p; generalize pb (r.z &&& s.x) = q
  revert a b p q; decide
 | both=>
  simp only [a4s,c8n,a9u,a9t,c3e,b8z,c2y,d4s,Nat.testBit_xor,tb_bpow,decide_true,Bool.and_true];generalize r.x.testBit i=a; generalize s.x.testBit i=b; generalize r.z.testBit i=c; generalize s.z.testBit i=d; generalize pb (r.x &&& s.z) = p; generalize pb (r.z &&& s.x) = q
  revert a b c d p q; decide
 | wher=>
  have h:=hj rfl;have h':¬ j=i:=fun z=>h z.symm;simp only [a4s,c8n,a9u,a9t,c3e,b8z,c2y,d4s,Nat.testBit_xor,tb_bpow,h,h',decide_false,Bool.and_false,Bool.xor_false];generalize r.x.testBit i=a; generalize s.x.testBit i=b; generalize r.z.testBit j=c; generalize s.z.testBit j=d; generalize pb (r.x &&& s.z) = p; generalize pb (r.z &&& s.x) = q
  revert a b c d p q; decide
 | swap=>
  have h:=hj rfl;have h':¬ j=i:=fun z=>h z.symm;simp only [a4s,c8n,ex,a9u,a9t,c3e,b8z,c2y,d4s,Nat.testBit_xor,tb_bpow,h,h',decide_false,decide_true,Bool.and_true,Bool.and_false,Bool.xor_false];generalize r.x.testBit i=a; generalize s.x.testBit i=b; generalize r.z.testBit j=c; generalize s.z.testBit j=d;generalize r.x.testBit j=a'; generalize s.x.testBit j=b'; generalize r.z.testBit i=c'; generalize s.z.testBit i=d';generalize pb (r.x &&& s.z) = p; generalize pb (r.z &&& s.x) = q
  revert a b c d a' b' c' d' p q; decide +kernel
theorem act_symp {d:Dd}{n:Nat}(ok:d.Ok n)(r s:Row):a4s (act d r) (act d s) = a4s r s:=actW_symp (fun e=>(ok.one.2.1 e).2) r s
theorem a9s (a b:Bool)(k:Nat):(a ^^ b).toNat * 2 ^ k=a.toNat * 2 ^ k ^^^ b.toNat * 2 ^ k:=by
 cases a <;> cases b <;> simp
def Add3 (r s t:Row):Prop:=t.x=r.x ^^^ s.x/\t.z=r.z ^^^ s.z
theorem xx4 (a b c d:Nat):a ^^^ b ^^^ (c ^^^ d) = a ^^^ c ^^^ (b ^^^ d):=x4 a b c d
theorem actW_add {r s t:Row}(h:Add3 r s t):Add3 (c8n k i j r) (c8n k i j s) (c8n k i j t):=by
 obtain ⟨hx,hz⟩:=h;have e4:∀ a b c d:Bool,((a ^^ b) ^^ (c ^^ d)) = ((a ^^ c) ^^ (b ^^ d)):=by decide
 cases k with
 | over=>exact ⟨hx,hz⟩
 | quarter=>exact ⟨hx,by simp only [c8n,hx,hz,Nat.testBit_xor,a9s]; exact xx4 _ _ _ _⟩
 | back=>exact ⟨hx,by simp only [c8n,hx,hz,Nat.testBit_xor,a9s]; exact xx4 _ _ _ _⟩
 | both=>
  constructor
  ·simp only [c8n,hx,hz,Nat.testBit_xor];rw [e4,a9s];exact xx4 _ _ _ _
  ·simp only [c8n,hx,hz,Nat.testBit_xor];rw [e4,a9s];exact xx4 _ _ _ _
 | wher=>exact ⟨by simp only [c8n,hx,hz,Nat.testBit_xor,a9s]; exact xx4 _ _ _ _,by simp only [c8n,hx,hz,Nat.testBit_xor,a9s]; exact xx4 _ _ _ _⟩
 | swap=>
  have key:∀ a b:Nat,ex (a ^^^ b) i j=ex a i j ^^^ ex b i j:=fun a b=>by
   simp only [ex,Nat.testBit_xor];rw [e4];generalize (a.testBit i ^^ a.testBit j) = u;generalize (b.testBit i ^^ b.testBit j) = v;rw [a9s,a9s,xx4 a,xx4 (a ^^^ u.toNat * 2 ^ i)]
  exact ⟨by show ex t.x i j=ex r.x i j ^^^ ex s.x i j; rw [hx,key],by show ex t.z i j=ex r.z i j ^^^ ex s.z i j; rw [hz,key]⟩
theorem c9a:∀ {ds:List Dd} {r s t:Row},Add3 r s t->Add3 (d4x ds r) (d4x ds s) (d4x ds t)
 | [],_,_,_,h=>h
 | d :: ds,_,_,_,h=>c9a (ds:=ds) (actW_add h)
end Tw
namespace Tw
open PySem L2
variable {l m:List Nat}{a b w:Nat}{r s:Row}
def Spn (l:List Nat)(v:Nat):Prop:=∃ m,m < 2 ^ l.length/\a5g l m=v
theorem sp_nil (v:Nat):Spn [] v ↔ v=0:=⟨fun ⟨_,_,e⟩=>e.symm,fun e=>⟨0,by decide,e.symm⟩⟩
theorem xor_flip {c:Nat}(h:a ^^^ b=c):b=c ^^^ a:=by
 rw [<- h,Nat.xor_comm a b,Nat.xor_assoc,Nat.xor_self,Nat.xor_zero]
theorem a3z (b:Nat)(l:List Nat)(v:Nat):Spn (b :: l) v ↔ Spn l v\/Spn l (v ^^^ b):=by
 constructor
 ·rintro ⟨m,hm,e⟩;have hm2:m / 2 < 2 ^ l.length:=by rw [List.length_cons,Nat.pow_succ] at hm; omega
  have e':(if m.testBit 0=true then b else 0) ^^^ a5g l (m / 2) = v:=e
  by_cases h:m.testBit 0=true
  ·rw [if_pos h] at e';exact .inr ⟨m / 2,hm2,xor_flip e'⟩
  ·rw [if_neg h,Nat.zero_xor] at e';exact .inl ⟨m / 2,hm2,e'⟩
 ·rintro (⟨m,hm,e⟩ | ⟨m,hm,e⟩)
  ·refine ⟨2 * m,by rw [List.length_cons,Nat.pow_succ]; omega,?_⟩;show (if (2 * m).testBit 0=true then b else 0) ^^^ a5g l (2 * m / 2) = v;rw [Nat.mul_div_cancel_left _ (by decide),e,show (2 * m).testBit 0=false by simp [Nat.testBit_zero]];simp
  ·refine ⟨2 * m + 1,by rw [List.length_cons,Nat.pow_succ]; omega,?_⟩;show (if (2 * m + 1).testBit 0=true then b else 0) ^^^ a5g l ((2 * m + 1) / 2) = v;rw [show (2 * m + 1) / 2=m by omega,e,show (2 * m + 1).testBit 0=true by simp [Nat.testBit_zero]];rw [if_pos rfl,Nat.xor_comm,Nat.xor_assoc,Nat.xor_self,Nat.xor_zero]
theorem xr (a b c:Nat):a ^^^ b ^^^ c=a ^^^ c ^^^ b:=by rw [Nat.xor_assoc,Nat.xor_assoc,Nat.xor_comm b c]
theorem c4u (h:l.Perm m):∀ v,Spn l v ↔ Spn m v:=by
 induction h with
 | nil=>exact fun _=>Iff.rfl
 | cons x _ ih=>exact fun v=>by rw [a3z,a3z,ih,ih]
 | swap x y l=>
  intro v;rw [a3z,a3z,a3z,a3z,a3z,a3z,xr v x y]
  constructor
  ·rintro ((h | h) | (h | h))
   ·exact .inl (.inl h)
   ·exact .inr (.inl h)
   ·exact .inl (.inr h)
   ·exact .inr (.inr h)
  ·rintro ((h | h) | (h | h))
   ·exact .inl (.inl h)
   ·exact .inr (.inl h)
   ·exact .inl (.inr h)
   ·exact .inr (.inr h)
 | trans _ _ h1 h2=>exact fun v=>(h1 v).trans (h2 v)
def Ind:List Nat->Prop
 | []=>True
 | b :: l=>¬ Spn l b/\Ind l
theorem b9g (h:l.Perm m):Ind l->Ind m:=by
 induction h with
 | nil=>exact id
 | cons x p ih=>exact fun ⟨h1,h2⟩=>⟨fun z=>h1 ((c4u p x).2 z),ih h2⟩
 | swap x y l=>
  rintro ⟨h1,h2,h3⟩;refine ⟨fun z=>?_,fun z=>h1 ((a3z _ _ _).2 (.inl z)),h3⟩
  rcases (a3z _ _ _).1 z with z | z
  ·exact h2 z
  ·exact h1 ((a3z _ _ _).2 (.inr (by rw [Nat.xor_comm]; exact z)))
 | trans _ _ h1 h2=>exact fun h=>h2 (h1 h)
theorem ind_inj:∀ {l:List Nat},Ind l->∀ {a b:Nat},a < 2 ^ l.length->b < 2 ^ l.length->a5g l a=a5g l b->a=b
 | [],_,a,b,ha,hb,_=>by simp at ha hb; omega
 | v :: l,⟨h1,h2⟩,a,b,ha,hb,e=>by
  rw [List.length_cons,Nat.pow_succ] at ha hb;have e':(if a.testBit 0=true then v else 0) ^^^ a5g l (a / 2) = (if b.testBit 0=true then v else 0) ^^^ a5g l (b / 2):=e
  have no:∀ c d,c < 2 ^ l.length->d < 2 ^ l.length->v ^^^ a5g l c=a5g l d->False:=fun c d hc hd z=>h1 ⟨d ^^^ c,Nat.xor_lt_two_pow hd hc,by
   rw [b9b,<- z,Nat.xor_assoc,Nat.xor_self,Nat.xor_zero]⟩
  have key:a.testBit 0=b.testBit 0/\a5g l (a / 2) = a5g l (b / 2):=by
   by_cases ha0:a.testBit 0=true <;> by_cases hb0:b.testBit 0=true
   ·rw [if_pos ha0,if_pos hb0] at e';refine ⟨ha0.trans hb0.symm,?_⟩;have:=congrArg (v ^^^ ·) e'
    simp only [<- Nat.xor_assoc,Nat.xor_self,Nat.zero_xor] at this;exact this
   ·rw [if_pos ha0,if_neg hb0,Nat.zero_xor] at e';exact (no _ _ (by omega) (by omega) e').elim
   ·rw [if_neg ha0,if_pos hb0,Nat.zero_xor] at e';exact (no _ _ (by omega) (by omega) e'.symm).elim
   ·rw [if_neg ha0,if_neg hb0,Nat.zero_xor,Nat.zero_xor] at e';exact ⟨(eq_false_of_ne_true ha0).trans (eq_false_of_ne_true hb0).symm,e'⟩
  have e2:=ind_inj h2 (a:=a / 2) (b:=b / 2) (by omega) (by omega) key.2;have e3:=key.1;rw [Nat.testBit_zero,Nat.testBit_zero,decide_eq_decide] at e3;omega
theorem sp_sum (a b:Nat)(l:List Nat)(v:Nat):Spn ((a ^^^ b) :: b :: l) v ↔ Spn (a :: b :: l) v:=by
 rw [a3z,a3z,a3z,a3z,a3z,a3z];have e1:v ^^^ (a ^^^ b) = v ^^^ a ^^^ b:=(Nat.xor_assoc _ _ _).symm;have e2:v ^^^ a ^^^ b ^^^ b=v ^^^ a:=by rw [Nat.xor_assoc,Nat.xor_self,Nat.xor_zero]
 rw [e1,e2]
 constructor
 ·rintro ((h | h) | (h | h))
  ·exact .inl (.inl h)
  ·exact .inl (.inr h)
  ·exact .inr (.inr h)
  ·exact .inr (.inl h)
 ·rintro ((h | h) | (h | h))
  ·exact .inl (.inl h)
  ·exact .inl (.inr h)
  ·exact .inr (.inr h)
  ·exact .inr (.inl h)
theorem ind_sum (h:Ind (a :: b :: l)):Ind ((a ^^^ b) :: b :: l):=by
 obtain ⟨h1,h2,h3⟩:=h;refine ⟨fun z=>h1 ?_,h2,h3⟩
 rcases (a3z _ _ _).1 z with z | z
 ·exact (a3z _ _ _).2 (.inr z)
 ·rw [Nat.xor_assoc,Nat.xor_self,Nat.xor_zero] at z;exact (a3z _ _ _).2 (.inl z)
theorem sn_inj {x z x' z':Nat}(hx:x < 2 ^ w)(hx':x' < 2 ^ w)(h:x ^^^ z * 2 ^ w=x' ^^^ z' * 2 ^ w):x=x'/\z=z':=by
 have b1:∀ {a c:Nat},a < 2 ^ w->∀ i,i < w->(a ^^^ c * 2 ^ w).testBit i=a.testBit i:=fun {a c} ha i hi=>by
  rw [Nat.testBit_xor,<- Nat.shiftLeft_eq,Nat.testBit_shiftLeft];simp [Nat.not_le.2 hi]
 have b2:∀ {a c:Nat},a < 2 ^ w->∀ i,(a ^^^ c * 2 ^ w).testBit (w + i) = c.testBit i:=fun {a c} ha i=>by
  rw [Nat.testBit_xor,<- Nat.shiftLeft_eq,Nat.testBit_shiftLeft,Nat.testBit_lt_two_pow (Nat.lt_of_lt_of_le ha (Nat.pow_le_pow_right (by decide) (Nat.le_add_right _ _)))];simp
 constructor
 ·apply Nat.eq_of_testBit_eq;intro i
  rcases Nat.lt_or_ge i w with hi | hi
  ·rw [<- b1 (c:=z) hx i hi,h,b1 hx' i hi]
  ·rw [Nat.testBit_lt_two_pow (Nat.lt_of_lt_of_le hx (Nat.pow_le_pow_right (by decide) hi)),Nat.testBit_lt_two_pow (Nat.lt_of_lt_of_le hx' (Nat.pow_le_pow_right (by decide) hi))]
 ·apply Nat.eq_of_testBit_eq;intro i;rw [<- b2 (c:=z) hx i,h,b2 hx' i]
theorem mul_xor (a b k:Nat):(a ^^^ b) * 2 ^ k=a * 2 ^ k ^^^ b * 2 ^ k:=by
 rw [<- Nat.shiftLeft_eq,<- Nat.shiftLeft_eq,<- Nat.shiftLeft_eq];exact Nat.shiftLeft_xor_distrib
theorem sn_sel (w:Nat):∀ (rs:List Row) (m:Nat),a5g (rs.map fun r=>r.x ^^^ r.z * 2 ^ w) m=a5g (rs.map Row.x) m ^^^ a5g (rs.map Row.z) m * 2 ^ w
 | [],m=>by simp [a5g]
 | r :: rs,m=>by
  show (if m.testBit 0=true then r.x ^^^ r.z * 2 ^ w else 0) ^^^ a5g (rs.map fun r=>r.x ^^^ r.z * 2 ^ w) (m / 2) = ((if m.testBit 0=true then r.x else 0) ^^^ a5g (rs.map Row.x) (m / 2)) ^^^ ((if m.testBit 0=true then r.z else 0) ^^^ a5g (rs.map Row.z) (m / 2)) * 2 ^ w;rw [sn_sel w rs (m / 2),mul_xor]
  split
  ·exact x4 _ _ _ _
  ·simp
def Lsel (rs:List Row)(m:Nat)(r:Row):Prop:=a5g (rs.map Row.x) m=r.x/\a5g (rs.map Row.z) m=r.z
theorem lsel_sn {rs:List Row}(hrs:∀ s ∈ rs,s.x < 2 ^ w)(hr:r.x < 2 ^ w)(m:Nat):a5g (rs.map fun r=>r.x ^^^ r.z * 2 ^ w) m=r.x ^^^ r.z * 2 ^ w ↔ Lsel rs m r:=by
 rw [sn_sel]
 constructor
 ·intro h;exact sn_inj (d7g m fun v hv=>by obtain ⟨s,hs,rfl⟩:=List.mem_map.1 hv; exact hrs s hs) hr h
 ·rintro ⟨h1,h2⟩;rw [h1,h2]
theorem acts_let {ds:List Dd}(hx:r.x=s.x)(hz:r.z=s.z):(d4x ds r).x=(d4x ds s).x/\(d4x ds r).z=(d4x ds s).z:=by
 have h:=c9a (ds:=ds) (r:=r) (s:=⟨0,0,0⟩) (t:=s) ⟨by rw [Nat.xor_zero]; exact hx.symm,by rw [Nat.xor_zero]; exact hz.symm⟩
 have h0:(d4x ds ⟨0,0,0⟩).x=0/\(d4x ds ⟨0,0,0⟩).z=0:=by
  have h:=c9a (ds:=ds) (r:=⟨0,0,0⟩) (s:=⟨0,0,0⟩) (t:=⟨0,0,0⟩) ⟨rfl,rfl⟩;exact ⟨by rw [h.1,Nat.xor_self],by rw [h.2,Nat.xor_self]⟩
 refine ⟨?_,?_⟩
 ·rw [h.1,h0.1,Nat.xor_zero]
 ·rw [h.2,h0.2,Nat.xor_zero]
theorem c8k (h:Ind l)(hb:¬ Spn l b):Ind (l ++ [b]):=b9g (List.perm_append_comm (l₁:=[b]) (l₂:=l)) (show Ind (b :: l) from ⟨hb,h⟩)
theorem b8x {t u:Row}(h:Add3 r s t):a4s t u=(a4s r u ^^ a4s s u):=by
 unfold a4s;rw [h.1,h.2,a9t,a9t,c3e,c3e];generalize pb (r.x &&& u.z) = a; generalize pb (s.x &&& u.z) = b; generalize pb (r.z &&& u.x) = c; generalize pb (s.z &&& u.x) = d
 revert a b c d; decide
theorem a9w (r s:Row):a4s r s=a4s s r:=by
 unfold a4s;rw [Nat.and_comm r.x s.z,Nat.and_comm r.z s.x];exact Bool.xor_comm _ _
end Tw
namespace Tw
open PySem L2
variable {rs us:List Row}{r s:Row}
theorem low_bit:∀ v:Nat,0 < v->∃ j,v - (v &&& (v - 1)) = 2 ^ j/\v.testBit j=true:=by
 intro v
 induction v using Nat.strongRecOn with
 | _ v ih=>
  intro hv
  by_cases h:v % 2=1
  ·refine ⟨0,?_,by rw [Nat.testBit_zero]; simpa using h⟩
   have e:v &&& (v - 1) = v - 1:=by
    have h1:(v &&& (v - 1)) / 2=(v - 1) / 2:=by
     rw [c3n,show v / 2=(v - 1) / 2 by omega,Nat.and_self]
    have h2:(v &&& (v - 1)) % 2=0:=by
     rw [d7z,show (v - 1) % 2=0 by omega,Nat.mul_zero]
    omega
   rw [e];show v - (v - 1) = 1;omega
  ·obtain ⟨j,e,b⟩:=ih (v / 2) (by omega) (by omega);refine ⟨j + 1,?_,by rw [Nat.testBit_succ]; exact b⟩
   have h1:(v &&& (v - 1)) / 2=v / 2 &&& (v / 2 - 1):=by
    rw [c3n,show (v - 1) / 2=v / 2 - 1 by omega]
   have h2:(v &&& (v - 1)) % 2=0:=by
    rw [d7z,show v % 2=0 by omega,Nat.zero_mul]
   have h3:v / 2 &&& (v / 2 - 1) <= v / 2:=Nat.and_le_left;rw [Nat.pow_succ,<- e];omega
def tmq (r s:Row):Int:=(pop (r.x &&& r.z):Int) + (pop (s.x &&& s.z):Int) + 2 * (pop (r.z &&& s.x):Int) - (pop ((r.x ^^^ s.x) &&& (r.z ^^^ s.z)):Int)
def tm (r s:Row):Row:=⟨(((r.m:Int) + (s.m:Int) + tmq r s / 2) % 2).toNat,r.x ^^^ s.x,r.z ^^^ s.z⟩
theorem tm_m (r s:Row):(((r.m:Int) + (s.m:Int) + tmq r s / 2) % 2) = ((tm r s).m:Int):=by
 show _=((((r.m:Int) + (s.m:Int) + tmq r s / 2) % 2).toNat:Int);omega
theorem tm_le (r s:Row):(tm r s).m <= 1:=by
 have:=tm_m r s;omega
theorem d0k (r s:Row):Add3 r s (tm r s):=⟨rfl,rfl⟩
theorem b3f (r s:Row):a4s r s=false ↔ pop ((r.x &&& s.z) ^^^ (r.z &&& s.x)) % 2=0:=by
 unfold a4s;rw [<- c3e];unfold pb;rw [decide_eq_false_iff_not];omega
theorem symp_pop2 (r s:Row)(h:a4s r s=false):pop (r.x &&& s.z) % 2=pop (r.z &&& s.x) % 2:=by
 have h1:=(b3f r s).1 h;have h2:=b9m (r.x &&& s.z) (r.z &&& s.x);omega
theorem tm_prog (h:a4s r s=false):(2 * ((r.m:Int) + (s.m:Int) + (pop (r.x &&& s.z):Int)) + (pop (r.x &&& r.z):Int) + (pop (s.x &&& s.z):Int) - (pop ((r.x ^^^ s.x) &&& (r.z ^^^ s.z)):Int)) % 4 / 2=((tm r s).m:Int):=by
 have h1:=symp_pop2 r s h;have h2:=pop_both r.x r.z s.x s.z;have h3:=(b3f r s).1 h;rw [<- tm_m];unfold tmq;omega
def pr (us:List Row):Row:=us.foldl tm ⟨0,0,0⟩
theorem pr_snoc (us:List Row)(r:Row):pr (us ++ [r]) = tm (pr us) r:=by unfold pr; rw [List.foldl_append]; rfl
theorem pr_take {i:Nat}(h:us[i]? = some r):pr (us.take (i + 1)) = tm (pr (us.take i)) r:=by
 rw [<- pr_snoc,a1g h]
theorem symp_zero (s:Row):a4s ⟨0,0,0⟩ s=false:=by
 unfold a4s;show (pb (0 &&& s.z) ^^ pb (0 &&& s.x)) = false;rw [Nat.zero_and,Nat.zero_and,c4h];rfl
theorem pr_com {rs:List Row}(h:∀ r ∈ rs,∀ s ∈ rs,a4s r s=false):∀ {us:List Row},(∀ u ∈ us,u ∈ rs)->∀ s ∈ rs,a4s (pr us.reverse) s=false
 | [],_,s,_=>symp_zero s
 | u :: us,hu,s,hs=>by
  rw [List.reverse_cons,pr_snoc,b8x (d0k _ _),pr_com h (fun v hv=>hu v (List.mem_cons_of_mem _ hv)) s hs,h u (hu u List.mem_cons_self) s hs];rfl
theorem pr_com' (h:∀ r ∈ rs,∀ s ∈ rs,a4s r s=false)(hu:∀ u ∈ us,u ∈ rs)(hs:s ∈ rs):a4s (pr us) s=false:=by
 have:=pr_com h (us:=us.reverse) (fun u hu'=>hu u (List.mem_reverse.1 hu')) s hs;rw [List.reverse_reverse] at this;exact this
def pk (rs:List Row)(ks:List Nat):List Row:=ks.map fun k=>rs.getD k ⟨0,0,0⟩
theorem pk_app (rs:List Row)(a b:List Nat):pk rs (a ++ b) = pk rs a ++ pk rs b:=List.map_append ..
theorem pk_mem {ks:List Nat}(h:∀ k ∈ ks,k < rs.length):∀ u ∈ pk rs ks,u ∈ rs:=fun u hu=>by
 obtain ⟨k,hk,rfl⟩:=List.mem_map.1 hu;have:=h k hk;rw [List.getD_eq_getElem?_getD,List.getElem?_eq_getElem this];exact List.getElem_mem _
theorem plc_more {m a:Nat}(h:m < 2 ^ a):∀ {b:Nat},a <= b->plc m b=plc m a
 | 0,hb=>by rw [show a=0 by omega]
 | b + 1,hb=>by
  by_cases e:a=b + 1
  ·rw [e]
  ·rw [plc,Nat.testBit_lt_two_pow (Nat.lt_of_lt_of_le h (Nat.pow_le_pow_right (by decide) (show a <= b by omega)))];exact plc_more h (by omega)
end Tw
namespace L2
open PySem PySem.Spec PyProof.Rows
section
variable {prog:Program}{w:World}{A:Around}{E:Value->Shared->Prop}{s:Shared}
end
section
variable {X:Cx}{o i value:Expr}{td ty tv:TE}{pos pos':Pos}
theorem pe_bm0K {K:PySem.W.Frag}{T:String}{id:String}{name:Str}{r:V->List V->Hp->VK->Prop}{o:Expr}{to:TE}{apos cpos:Pos}(hK:X.K=K)(pa:PlainAttrs T)(slot:Slot T name id)(hty:typeOf (.builtin id) = pure (.type "method_descriptor"))(hm:MtR X id r)(ho:PE X o to)
  (hbase:attributeBase o name X.env (eval o X.env) = eval o X.env:=by rfl) (hline:(apos.endLine == cpos.line) = true:=by rfl):PE X (.Call (.Attribute o name apos) [] [] cpos) (tBM0 K T r to):=hK ▸ pe_bm0 pa slot hty hm ho hbase hline
end
end L2
namespace L2
open PySem PySem.Spec PyProof.Rows
variable {sc:Scope}{s:Shared}
theorem d6f {M:Model}{A:Around}{E:Value->Shared->Prop}{scope:Scope}{x2:Str}{globals:Addr}{cl:List (Str × Addr)}{qual:Str}{env:Env}{Q:Env->Shared->Prop}
  (lay:∀ a cl,cellsFrom a scope.names cl=(x2,a) :: cl)
  (hQ:∀ h',h'.Ns s.heap.objs.size (fun _=>none)->h'.IsCell (s.heap.objs.size + 1) none->(∀ b o,s.heap.get? b=some o->h'.get? b=some o)->
   Q (newEnv scope s.heap.objs.size globals ((x2,s.heap.objs.size + 1) :: cl) qual none .none (some env) builtinsNs) { s with heap:=h' }) :
  wpAny M A (newFunctionEnv scope globals cl [] qual none .none (some env)) Q E s:=by
 simp only [newFunctionEnv,Option.isSome_some,if_true];refine wpAny_bind (wpAny_alloc ?_);refine wpAny_bind (wpAny_layCells _ (fun name kind cells=>by cases hkc:kind == NameKind.cell <;> simp [hkc]) _ _ _ _ ?_)
 rw [show ({ s with heap:=s.heap.push { cls:=.type "dict",data:=.dict #[] } }:Shared).heap.objs.size=s.heap.objs.size + 1 from Heap.size_push ..,lay,List.forIn_nil];have ok:=cellsFrom_ok scope.names (s.heap.push { cls:=.type "dict",data:=.dict #[] }) (s.heap.objs.size + 1) [] ⟨fun _ _ hm=>(nomatch hm),List.Pairwise.nil⟩ (by rw [Heap.size_push]; exact Nat.le_refl _);rw [Heap.size_push,lay] at ok;refine wpAny_bind (wpAny_pure (wpAny_pure (hQ _ ((Heap.Ns.new s.heap (.type "dict")).keeps (pushCells_keeps _ _)) (ok.empty x2 _ List.mem_cons_self).1 fun b o e=>pushCells_keeps _ _ b o (Heap.get?_push_of_some _ e))))
theorem b7c {a b:Str}(h:a ≠ b):(a == b) = false:=beq_eq_false_iff_ne.mpr h
structure a4u (sc:Scope)(x x2:Str)(scope:Scope):Prop where
 kind:scope.kind=.function
 cell:∀ y ∈ scope.names,y.2=.cell->y.1=x2
 lay:∀ a cl,cellsFrom a scope.names cl=(x2,a) :: cl
 own:scope.names.lookup x=some .local
 own2:scope.names.lookup x2=some .cell
 loc:∀ y ∈ scope.names,y.2=.local->y.1=x\/y.1=(".0":Str)
 nam:∀ y ∈ scope.names,y.2=.local->scope.names.lookup y.1=some .local
 free:∀ y ∈ scope.names,y.2=.free->sc.names.lookup y.1=some .cell\/sc.names.lookup y.1=some .free
 two:∀ y ∈ scope.names,y.2=.free->y.1 ≠ x/\y.1 ≠ x2
def Cx.compN (X:Cx)(M:List Str)(scope:Scope)(x x2:Str)(C:Addr)(s:Shared)(H:Hp)(ex:List Addr):Cx:=
 { X with N:=x :: x2 :: M,s₀:=s,H₀:=H,env:=compEnvC scope ((x2,C + 1) :: d9n X.env scope.names []) C X.env,outer:=X.stack,ex:=ex,fn:=fun y=>y == x2,pn:=[],xe:=fun _ _=>False }
section
variable {X:Cx}{M:List Str}{pins:List (Addr × Obj)}{σ:St}{H:Hp}{s:Shared}{scope:Scope}{x x2:Str}
theorem a4u.has (S:a4u X.env.scope x x2 scope)(ok:X.Ok):∀ p ∈ scope.names,p.2=.free->∃ c,X.env.cells.lookup p.1=some c:=fun p hp e=>ok.has p.1 (S.free p hp e)
theorem a4u.cells (S:a4u X.env.scope x x2 scope)(ok:X.Ok){y:Str}{c:Addr}(e:(d9n X.env scope.names []).lookup y=some c):X.env.cells.lookup y=some c:=by
 rcases b5x X.env scope.names [] (S.has ok) c e with z | z
 ·cases z
 ·exact z
theorem a4u.cases (S:a4u X.env.scope x x2 scope)(ok:X.Ok){C:Addr}{y:Str}{c:Addr}(e:((x2,C) :: d9n X.env scope.names []).lookup y=some c):(y=x2/\c=C)\/(y ≠ x2/\X.env.cells.lookup y=some c):=by
 rw [List.lookup_cons] at e
 cases hb:y == x2 with
 | true=>rw [hb] at e; cases e; exact .inl ⟨eq_of_beq hb,rfl⟩
 | false=>rw [hb] at e; exact .inr ⟨(fun z=>by rw [z,beq_self_eq_true] at hb; cases hb),S.cells ok e⟩
theorem a4u.rl2 (S:a4u X.env.scope x x2 scope):(relabel scope X.env).names.lookup x2=some .cell:=by
 rw [a4j,S.own2,Option.map_some];unfold rlb;have:(NameKind.cell == NameKind.free) = false:=by decide
 rw [this];rfl
theorem a4u.sees (S:a4u X.env.scope x x2 scope){y:Str}(hy2:y ≠ x2)(hy:(relabel scope X.env).names.lookup y ≠ some .local)(hv:Vis (relabel scope X.env) y):(y,NameKind.free) ∈ scope.names/\((relabel scope X.env).names.lookup y=some .cell\/(relabel scope X.env).names.lookup y=some .free):=by
 unfold Vis at hv;rw [a4j] at hv ⊢
 cases e:scope.names.lookup y with
 | none=>rw [e] at hv; rcases hv with z | z | z <;> cases z
 | some k=>
  have hm:=mem_of_lookup e;rw [e] at hv
  have hk:k=.free:=by
   by_cases hf:k=.free
   ·exact hf
   ·have hr:rlb X.env y k=k:=by
     unfold rlb;have:(k == NameKind.free) = false:=by simpa using hf
     rw [this]; rfl
    rw [Option.map_some,hr] at hv
    rcases hv with z | z | z
    ·rw [a4j,e,Option.map_some,hr] at hy;exact absurd z hy
    ·exact absurd (S.cell _ hm (Option.some.inj z)) hy2
    ·exact Option.some.inj z
  subst hk;refine ⟨hm,?_⟩;rw [Option.map_some];unfold rlb
  split
  ·exact .inl rfl
  ·exact .inr rfl
theorem a4u.ok (S:a4u X.env.scope x x2 scope)(I:Inv X pins σ H s){C:Addr}(hC:s.heap.objs.size <= C){fp:List Addr}(hf:∀ b ∈ fp,FpOk X pins H b)(hl:∀ b ∈ fp,b < s.heap.objs.size):(X.compN M scope x x2 C s H fp).Ok where
 mod:=I.ok.mod
 kind:=S.kind
 glob:=I.ok.glob
 blt:=I.ok.blt
 above:=hC
 inj:=fun y z c e1 e2=>by
  have lt:∀ {u:Str} {c:Addr},X.env.cells.lookup u=some c->c < s.heap.objs.size:=fun {u c} e=>by
   obtain ⟨v,q⟩:=I.cell u c e;exact q.lt
  rcases S.cases I.ok e1 with ⟨a1,b1⟩ | ⟨a1,b1⟩ <;> rcases S.cases I.ok e2 with ⟨a2,b2⟩ | ⟨a2,b2⟩
  ·rw [a1,a2]
  ·have h2:=lt b2; rw [b1] at h2; exact absurd (Nat.lt_of_lt_of_le h2 hC) (by exact Nat.not_lt.mpr (Nat.le_succ _))
  ·have h2:=lt b1; rw [b2] at h2; exact absurd (Nat.lt_of_lt_of_le h2 hC) (by exact Nat.not_lt.mpr (Nat.le_succ _))
  ·exact I.ok.inj y z c b1 b2
 has:=fun y hy=>by
  have hv:Vis (relabel scope X.env) y:=.inr hy
  have hne:(relabel scope X.env).names.lookup y ≠ some .local:=fun e=>by
   have hy':(relabel scope X.env).names.lookup y=some .cell\/(relabel scope X.env).names.lookup y=some .free:=hy;rw [e] at hy'
   rcases hy' with q | q <;> cases q
  by_cases hy2:y=x2
  ·exact ⟨C + 1,by show List.lookup y ((x2,C + 1) :: _) = _; rw [hy2,List.lookup_cons,beq_self_eq_true]⟩
  ·obtain ⟨c,hc⟩:=b9a X.env scope.names [] (.inl (S.sees hy2 hne hv).1);refine ⟨c,?_⟩;show List.lookup y ((x2,C + 1) :: _) = _;rw [List.lookup_cons,b7c hy2];exact hc
 cab:=fun y c z e=>by
  have z':y=x2:=eq_of_beq z
  rcases S.cases I.ok e with ⟨_,b1⟩ | ⟨a1,_⟩
  ·show s.heap.objs.size <= c; rw [b1]; exact Nat.le_succ_of_le hC
  ·exact absurd z' a1
 hd:=I.ok.hd
 frames:=I.ok.frames
 stk:=.inl rfl
 exf:=fun b hb=>⟨fun z=>by
   have h1:=hl b hb;have z':b=C:=z;rw [z'] at h1
   exact Nat.not_le.mpr h1 hC,fun y c e=>by
   rcases S.cases I.ok e with ⟨_,b1⟩ | ⟨_,b1⟩
   ·intro z; rw [b1] at z; have h2:=hl b hb; rw [<- z] at h2; exact absurd (Nat.lt_of_lt_of_le h2 hC) (Nat.not_lt.mpr (Nat.le_succ _))
   ·exact (hf b hb).2.2.2.2.1 y c b1⟩
 bs:=I.bs
 bsz:=Nat.le_trans I.ok.bsz I.sz
 noex:=fun b o e hb=>by
  rcases (hf b hb).2.2.2.1 with z | z
  ·exact I.ok.noex b o e z
  ·have h1:=Heap.lt_size e;have h2:=I.ok.bsz;exact absurd (Nat.lt_of_lt_of_le (Nat.lt_of_lt_of_le h1 h2) z) (Nat.lt_irrefl _)
 exfs:=fun b hb z=>by
  rcases List.mem_cons.mp (I.stkSub b z) with q | q
  ·exact (hf b hb).2.1 q
  ·exact (hf b hb).2.2.1 q
 funs:=I.stack
 frf:=I.stkFree
theorem a4u.inv (S:a4u X.env.scope x x2 scope)(hx:x ∉ M)(hx2:x2 ∉ M)(hxx:x ≠ x2)(h0:(".0":Str) ∉ M)(hlen:M.length=X.N.length)(hM:∀ (j:Nat) y,M[j]? = some y->X.N[j]? = some y\/scope.names.lookup y=none)(I:Inv X pins σ H s){C:Addr}(hC:s.heap.objs.size <= C){fp:List Addr}(hf:∀ b ∈ fp,FpOk X pins H b)(hl:∀ b ∈ fp,b < s.heap.objs.size){h1:Heap}{t1:Nat}
  (old:∀ b o,s.heap.get? b=some o->h1.get? b=some o) {m:Str->Option Value} (ns:h1.Ns C m) (hcl:h1.IsCell (C + 1) none):Inv (X.compN M scope x x2 C s H fp) [] (none :: none :: σ) H { s with heap:=h1,toks:=t1 } where
 ok:=S.ok I hC hf hl
 os:=rfl
 bare:=I.bare
 base:=Un.kept old
 loc:=by
  refine ⟨m,ns,fun i y v e1 e2 hv=>?_⟩
  match i,e1,e2 with
  | 0,_,e2=>cases e2
  | 1,_,e2=>cases e2
  | j + 2,e1,e2=>
   have e1':M[j]? = some y:=by simpa [Cx.compN] using e1
   have e2':σ[j]? = some (some v):=by simpa using e2
   by_cases hy:(relabel scope X.env).names.lookup y=some .local
   ·exfalso;rw [a4j] at hy
    cases e:scope.names.lookup y with
    | none=>rw [e] at hy; cases hy
    | some k=>
     rw [e,Option.map_some] at hy
     have hk:k=.local:=by
      have hy':=Option.some.inj hy;unfold rlb at hy'
      split at hy'
      ·cases hy'
      ·exact hy'
     rcases S.loc _ (mem_of_lookup e) hk with z | z
     ·have z':y=x:=z;subst z'; exact hx (List.mem_of_getElem? e1')
     ·have z':y=(".0":Str):=z;subst z'; exact h0 (List.mem_of_getElem? e1')
   ·have hy2:y ≠ x2:=fun z=>hx2 (z ▸ List.mem_of_getElem? e1');obtain ⟨hm,hk⟩:=S.sees hy2 hy hv;obtain ⟨m0,_,hl0⟩:=I.loc;have hx0:Vis X.env.scope y:=.inr (S.free _ hm rfl)
    have e1':X.N[j]? = some y:=by
     rcases hM j y e1' with z | z
     ·exact z
     ·exfalso;unfold Vis at hv;have hv':(relabel scope X.env).names.lookup y=some .local\/(relabel scope X.env).names.lookup y=some .cell\/(relabel scope X.env).names.lookup y=some .free:=hv;rw [a4j,z] at hv'
      rcases hv' with q | q | q <;> cases q
    obtain ⟨u,r,l⟩:=hl0 j y v e1' e2' hx0;refine ⟨u,r,.inr ⟨hk,?_⟩⟩;obtain ⟨c,hc⟩:=b9a X.env scope.names [] (.inl hm);refine ⟨c,by show List.lookup y ((x2,C + 1) :: _) = _; rw [List.lookup_cons,b7c hy2]; exact hc,?_⟩;have hc0:=S.cells I.ok hc
    rcases l with ⟨k0,_⟩ | ⟨_,c0,e0,q0⟩
    ·rcases S.free _ hm rfl with z | z
     ·have k0':X.env.scope.names.lookup y=some .local:=k0;rw [z] at k0'; cases k0'
     ·have k0':X.env.scope.names.lookup y=some .local:=k0;rw [z] at k0'; cases k0'
    ·rw [hc0] at e0; cases e0;obtain ⟨o,ho,hd⟩:=q0;exact ⟨o,old _ _ ho,hd⟩
 cell:=fun y c e=>by
  rcases S.cases I.ok e with ⟨_,b1⟩ | ⟨_,b1⟩
  ·rw [b1]; exact ⟨_,hcl⟩
  ·obtain ⟨v,o,ho,hd⟩:=I.cell y c b1;exact ⟨v,o,old _ _ ho,hd⟩
 free:=I.hok.fresh hC
 freeC:=fun y c e=>by
  rcases S.cases I.ok e with ⟨_,b1⟩ | ⟨_,b1⟩
  ·rw [b1]; exact I.hok.fresh (Nat.le_succ_of_le hC)
  ·exact I.freeC y c b1
 pin:=fun p hp=>by cases hp
 hok:=I.hok.kept old
 len:=by simp [Cx.compN,I.len,hlen]
end
section
variable {X:Cx}{M:List Str}{scope:Scope}{x x2:Str}{px px2 ptg pos:Pos}{tk:Nat}{elt iter:Expr}{ifs:List Expr}{wi:TI}{tt:TT}{te:TE}
theorem comp_coreN {use:Option (Value->Sem Unit)}{QQ:Value->Shared->Prop}{Q:VK}{pins:List (Addr × Obj)}{σ:St}{H:Hp}{cpos:Pos}(hsc:X.env.scope=sc)(S:a4u sc x x2 scope)(hx:x ∉ M)(hx2:x2 ∉ M)(hxx:x ≠ x2)(h0:(".0":Str) ∉ M)(hN:M.Nodup)(hlen:M.length=X.N.length)(hM:∀ (j:Nat) y,M[j]? = some y->X.N[j]? = some y\/scope.names.lookup y=none)(hc:X.calm=true)(hi:PI X (.Tuple [.Name x px,.Name x2 px2] tk ptg) iter wi)
  (ht:∀ C s H ex,PIfs (X.compN M scope x x2 C s H ex) ifs tt) (he:∀ C s H ex,PE (X.compN M scope x x2 C s H ex) elt te) (I:Inv X pins σ H s) (h:tComp2 X.K wi tt te σ H Q)
  (fin:∀ (D C:Addr) (s4:Shared) (H4:Hp),C ≠ X.env.locals->(∀ y c,X.env.cells.lookup y=some c->c ≠ C)->(∀ p ∈ X.pn ++ pins,p.1 ≠ C)->X.s₀.heap.objs.size <= C->H4 C=none->(∃ m,s4.heap.Ns C m)->
   (∀ h',Heap.SameBut C s4.heap h'->Inv X pins σ H4 { s4 with heap:=h' })->Q (.ref D) H4->compPost (model X.prog X.w) X.A X.xe use QQ (.ref D) C (.ok .next) s4)
  (hs:∀ v,foldedSetIterable iter X.env v=pure v) :
  wpAny (model X.prog X.w) X.A (comprehension (.ListComp elt [⟨.Tuple [.Name x px,.Name x2 px2] tk ptg,iter,ifs,0⟩] scope pos) scope X.env cpos (newList []) false (eval iter X.env) use) QQ X.xe s:=by
 subst hsc;have hnames:=S.nam;refine wpAny_comprehension_free (use:=use) rfl hs (d5h (S.has I.ok)) S.kind hnames (thn (hi pins s σ H _ I h) fun v s1 h1=>thn h1 fun itv s2 h2=>?_);obtain ⟨it,fp,tn,J,H2,e,I2,T,st2,f2,W,⟨m0,w0⟩,c0v⟩:=h2;subst e;refine wpAny_newObj_type (d6f S.lay (fun h₁ hns₁ hcl₁ hsb₁=>?_));dsimp only at hns₁ hcl₁ hsb₁ ⊢;generalize hG:s2.heap.push { cls:=.type "list",dict:=none,data:=.seq ([]:List Value).toArray } = G at hns₁ hcl₁ hsb₁ ⊢;have hC:G.objs.size=s2.heap.objs.size + 1:=by rw [<- hG,Heap.size_push]
 have hDC:s2.heap.objs.size ≠ G.objs.size:=by omega
 have below:∀ b,b < s2.heap.objs.size->b ≠ G.objs.size/\b ≠ s2.heap.objs.size:=fun b hb=>⟨by omega,by omega⟩;have old:∀ b o,s2.heap.get? b=some o->h₁.get? b=some o:=fun b o e=>hsb₁ b o (hG ▸ Heap.get?_push_of_some _ e);have hacc:h₁.get? s2.heap.objs.size=some { cls:=.type "list",data:=.seq ([]:List Value).toArray }:=hsb₁ _ _ (hG ▸ Heap.get?_push_size _ rfl)
 have hlt:∀ b ∈ fp,b < s2.heap.objs.size:=fun b hb=>by
  obtain ⟨o,e,_⟩:=T.obj _ _ st2 b hb;exact Heap.lt_size e
 have ctop:∀ y c,((x2,G.objs.size + 1) :: d9n X.env scope.names []).lookup y=some c->c ≠ s2.heap.objs.size:=fun y c e=>by
  rcases S.cases I2.ok e with ⟨_,b1⟩ | ⟨_,b1⟩
  ·rw [b1]; omega
  ·obtain ⟨v,q⟩:=I2.cell y c b1;exact Nat.ne_of_lt q.lt
 have hCle:s2.heap.objs.size <= G.objs.size:=by omega
 have IY:∀ t1,Inv (X.compN M scope x x2 G.objs.size s2 H2 fp) [] (none :: none :: σ) H2 { s2 with heap:=h₁,toks:=t1 }:=fun t1=>S.inv hx hx2 hxx h0 hlen hM I2 hCle f2 hlt old hns₁ hcl₁
 have nost:∀ b,s2.heap.objs.size <= b->b ∉ frs X.stack:=fun b hb z=>by
  rcases List.mem_cons.mp (I2.stkSub b z) with q | q
  ·exact Nat.not_le.mpr I2.lt (q ▸ hb)
  ·exact I2.nofs hb q
 have hD:s2.heap.objs.size ∉ frs X.stack:=nost _ (Nat.le_refl _)
 have ptop:∀ {pl:List (Addr × Obj)} {H':Hp},(∀ b ∈ fp,H' b=none)->(∀ p ∈ pl,p.1 ∉ fp)->∀ b ∈ fp,FpOk (X.compN M scope x x2 G.objs.size s2 H2 fp) pl H' b:=fun {pl H'} hn hp b hb=>
  ⟨hn b hb,fun z=>(below b (hlt b hb)).1 z,fun z=>(S.ok (M:=M) I2 hCle f2 hlt).exfs b hb z,.inl hb,fun y c e=>(S.ok (M:=M) I2 hCle f2 hlt).exf b hb |>.2 y c e,fun p hp' z=>hp p hp' (z ▸ hb)⟩
 have Dfp:s2.heap.objs.size ∉ fp:=fun z=>Nat.lt_irrefl _ (hlt _ z)
 have loop:∀ t1,codeAny (model X.prog X.w) X.A (.compLoop (.ListComp elt [⟨.Tuple [.Name x px,.Name x2 px2] tk ptg,iter,ifs,0⟩] scope pos) 0 (.ref it) (.ref s2.heap.objs.size) (compEnvC scope ((x2,G.objs.size + 1) :: d9n X.env scope.names []) G.objs.size X.env))
   (compPost (model X.prog X.w) X.A X.xe use QQ (.ref s2.heap.objs.size) G.objs.size) { s2 with heap:=h₁,toks:=t1 }:=by
  intro t1
  refine c5p (fun n s'=>∃ i o o2 H' ys its k,Inv (X.compN M scope x x2 G.objs.size s2 H2 fp) [(s2.heap.objs.size,{ cls:=.type "list",data:=.seq its k })] (o :: o2 :: σ) H' s'/\tn i s'.heap/\(∀ b ∈ fp,H' b=none)/\a6q ys its.toList/\ys.length <= sizeLine/\W i n ys H')
   ?_ m0 ⟨0,none,none,H2,[],#[],0,?_,T.keep _ _ _ st2 fun b _ o e=>old b o e,fun b hb=>(f2 b hb).1,.nil,Nat.zero_le _,w0⟩
  ·rintro n s3 ⟨i,o,o2,H3,ys,its,k,I3,st3,fr3,vs3,z3,w3⟩
   have pD:∀ p ∈ [(s2.heap.objs.size,({ cls:=.type "list",data:=.seq its k }:Obj))],p.1 ∉ fp:=fun p hp=>by
    have e:p=_:=List.mem_singleton.mp hp;subst e; exact Dfp
   rcases c0v i n ys H3 w3 with ⟨stop,qn⟩ | ⟨go,hz,N,hN',step⟩
   ·refine wpAny_mono (T.done (X.compN M scope x x2 G.objs.size s2 H2 fp) rfl rfl rfl hc i _ s3 (o :: o2 :: σ) H3 (fun _ _=>False) I3 (ptop fr3 pD) st3 stop) (fun r s4 ⟨hr,I4⟩=>?_) fun _ _ f=>f;subst hr;obtain ⟨m4,hn4,_⟩:=I4.loc;obtain ⟨eD,nD,_⟩:=I4.pin _ (List.mem_singleton.mpr rfl);have nC:H3 G.objs.size=none:=I4.free;refine fin s2.heap.objs.size G.objs.size s4 (upd H3 s2.heap.objs.size (.lst ys)) (fun z=>Nat.not_le.mpr I2.lt (z ▸ hCle)) (fun y c e z=>?_) (fun p hp z=>?_) (Nat.le_trans I2.sz hCle) (by rw [a0q (Ne.symm hDC)]; exact nC) ⟨m4,hn4⟩ (fun h' hs'=>?_) (qn _ nD)
    ·obtain ⟨v,q⟩:=I2.cell y c e;exact Nat.not_le.mpr q.lt (z ▸ hCle)
    ·exact Nat.not_le.mpr (Heap.lt_size (I2.pin p hp).1) (z ▸ hCle)
    have eD':h'.get? s2.heap.objs.size=some { cls:=.type "list",data:=.seq its k }:=hs'.extBut _ _ hDC eD;have stp:∀ b o,s2.heap.get? b=some o->b ≠ G.objs.size/\b ≠ s2.heap.objs.size:=fun b o e=>below b (Heap.lt_size e)
    have un:Un (frs X.stack) fp H2 (upd H3 s2.heap.objs.size (.lst ys)) s2.heap h':=by
     have B:=I4.base;refine ⟨fun b o e n1 n2 n3=>hs'.extBut _ _ (stp b o e).1 (B.keep b o e n1 n2 n3),fun b o e n1 n2 n3=>?_,fun b o e n1 n3=>?_,fun b o e n3=>?_,fun b xs e=>?_,fun b o u e=>?_,fun b ps e=>?_⟩
     ·obtain ⟨sl,q⟩:=B.slot b o e n1 n2 n3;exact ⟨sl,hs'.extBut _ _ (stp b o e).1 q⟩
     ·rw [a0q (stp b o e).2]; exact B.free b o e n1 n3
     ·obtain ⟨o',q⟩:=B.there b o e n3;exact ⟨o',hs'.extBut _ _ (stp b o e).1 q⟩
     ·have q:=B.tups b xs e;rw [a0q (a0n q nD)]; exact q
     ·have q:=B.frzs b o u e;rw [a0q (a0n q nD)]; exact q
     ·obtain ⟨more,q⟩:=B.tbls b ps e;exact ⟨more,by rw [a0q (a0n q nD)]; exact q⟩
    have hok:HOk X.prog X.w (upd H3 s2.heap.objs.size (.lst ys)) h':=fun b u e=>by
     by_cases hb:b=s2.heap.objs.size
     ·subst hb;rw [a0c] at e;cases e;exact ⟨z3,its.toList,k,vs3,by simpa using eD'⟩
     ·rw [a0q hb] at e;refine (I4.hok b u e).stay (fun c v hc' q=>hs'.extBut _ _ (fun z=>?_) q) (fun c q=>by rw [a0q (a0n q nD)]; exact q) fun c xs q=>by rw [a0q (a0n q nD)]; exact q
      rcases hc' with r | r
      ·rw [r] at z; rw [z,nC] at e; cases e
      ·rw [z,nC] at r; cases r
    refine I2.call' (s':={ s4 with heap:=h' }) I4.os un hok I4.bare (fun b hb=>?_);obtain ⟨f0,f1,f2',f3,f4,f5⟩:=f2 b hb;exact ⟨f3,f1,f4,f5⟩
   ·refine wpAny_mono (T.item (X.compN M scope x x2 G.objs.size s2 H2 fp) rfl rfl rfl hc i _ s3 (o :: o2 :: σ) H3 (fun _ _=>False) I3 (ptop fr3 pD) st3 go) (fun r s4 ⟨u,hr,h4⟩=>?_) fun _ _ f=>f;subst hr;refine wpAny_mono h4 (fun _ s5 ⟨v5,H5,I5,r5,y5,st5,fr5⟩=>?_) fun _ _ f=>f;have I5':=I5.pinned (ptop fr5 pD) (T.obj _ _ st5);have hnd:(X.compN M scope x x2 G.objs.size s2 H2 fp).N.Nodup:=List.nodup_cons.mpr ⟨fun z=>(List.mem_cons.mp z).elim hxx hx,List.nodup_cons.mpr ⟨hx2,hN⟩⟩;have hloc:(relabel scope X.env).names.lookup x=some .local:=lookup_relabel_local S.own;have hloc2:(relabel scope X.env).names.lookup x2=some .cell:=S.rl2;obtain ⟨a5,v5a,v5b,e5,sq5,q5⟩:=step v5 H5 y5;subst e5;refine wpAny_mono (c0h (X:=X.compN M scope x x2 G.objs.size s2 H2 fp) (pos:=ptg) (k:=tk) hc (a2x (a2r (X:=X.compN M scope x x2 G.objs.size s2 H2 fp) (i:=0) (pos:=px) hnd rfl (.inl hloc) (.inr hloc)) (a2x (a2r (X:=X.compN M scope x x2 G.objs.size s2 H2 fp) (i:=1) (pos:=px2) hnd rfl (.inr hloc2) (.inl (beq_self_eq_true x2))) b4d)) rfl rfl _ s5 (o :: o2 :: σ) H5 (.ref a5) u (fun σ6 H6=>σ6=some v5a :: some v5b :: σ/\H6=H5) I5' r5 ⟨a5,[v5a,v5b],rfl,sq5,rfl,v5a,[v5b],rfl,v5b,[],rfl,rfl,rfl,rfl⟩) (fun _ s6 ⟨σ6,H6,I6,e6,e6'⟩=>?_) fun _ _ f=>f;subst e6 e6'
    have later:∀ {σ7:St} {H7:Hp} {s7:Shared},Inv (X.compN M scope x x2 G.objs.size s2 H2 fp) ([(s2.heap.objs.size,{ cls:=.type "list",data:=.seq its k })] ++ d5m fp s5.heap) σ7 H7 s7->tn (i + 1) s7.heap/\(∀ b ∈ fp,H7 b=none):=fun {σ7 H7 s7} I7=>
     ⟨T.keep _ _ _ st5 fun b hb o e=>(I7.pin (b,o) (List.mem_append_right _ (List.mem_append_right _ (b1d hb e)))).1,fun b hb=>by
      obtain ⟨o,e,d⟩:=T.obj _ _ st5 b hb
      exact (I7.pin (b,o) (List.mem_append_right _ (List.mem_append_right _ (b1d hb e)))).2.1⟩
    refine wpAny_mono (ht _ _ _ _ _ s6 (some v5a :: some v5b :: σ) H6 _ I6 q5) (fun ok s7 ⟨H7,I7,q7⟩=>?_) fun _ _ f=>f
    cases ok with
    | false=>
     obtain ⟨m',hm,w7⟩:=hN' _ _ q7;exact ⟨m',hm,i + 1,some v5a,some v5b,H7,ys,its,k,I7.unpinned,(later I7).1,(later I7).2,vs3,z3,w7⟩
    | true=>
     refine wpAny_mono (he _ _ _ _ _ s7 (some v5a :: some v5b :: σ) H7 _ I7 q7) (fun uy s8 ⟨y8,H8,I8,r8,q8⟩=>?_) fun _ _ f=>f;obtain ⟨m',hm,w8⟩:=hN' _ _ q8;obtain ⟨eD,nD,_⟩:=I8.pin (s2.heap.objs.size,{ cls:=.type "list",data:=.seq its k }) (List.mem_append_right _ (List.mem_append_left _ (List.mem_singleton.mpr rfl)))
     have hsz:its.size <= sizeLine:=by
      have:=vs3.length;have e2:its.toList.length=its.size:=by simp
      omega
     refine wpAny_list_append_plain (hsz:=hsz) ⟨k,eD⟩ fun h9 pl9 sb9=>?_;obtain ⟨k9,e9⟩:=pl9;obtain ⟨st8,fr8⟩:=later I8;have I8':Inv (X.compN M scope x x2 G.objs.size s2 H2 fp) [] (some v5a :: some v5b :: σ) H8 s8:=I8.pins_of fun p hp=>nomatch hp
     have I9:Inv (X.compN M scope x x2 G.objs.size s2 H2 fp) [] (some v5a :: some v5b :: σ) H8 { s8 with heap:=h9 }:=
      I8'.turned (t':=s8.toks) (fun b o hb e=>sb9.extBut b o hb e) nD hDC (.inr (Nat.le_refl _)) (fun y c e z=>ctop y c e z) fun p hp=>nomatch hp
     refine ⟨m',hm,i + 1,some v5a,some v5b,H8,ys ++ [y8],its.push uy,k9,I9.pins_of fun p hp=>?_,T.keep _ _ _ st8 fun b hb o e=>sb9.extBut b o (fun z=>Dfp (z ▸ hb)) e,fr8,?_,?_,w8⟩
     ·have e:p=_:=List.mem_singleton.mp hp;subst e;exact ⟨e9,nD,hDC,hD,fun v z=>by cases z⟩
     ·rw [Array.toList_push];exact vs3.append (.cons r8 .nil)
     ·rw [List.length_append,List.length_singleton]; omega
  ·refine (IY t1).pins_of fun p hp=>?_;have e:p=_:=List.mem_singleton.mp hp;subst e;exact ⟨hacc,I2.hok.fresh (Nat.le_refl _),hDC,hD,fun v z=>by cases z⟩
 exact codeAny_compStart_list (loop _) (T.self _ 0 _ _ _ (T.keep _ _ _ st2 fun b _ o e=>old b o e) (loop _))
theorem pe_compN (hsc:X.env.scope=sc)(S:a4u sc x x2 scope)(hx:x ∉ X.N)(hx2:x2 ∉ X.N)(hxx:x ≠ x2)(h0:(".0":Str) ∉ X.N)(hN:X.N.Nodup)(hc:X.calm=true)(hi:PI X (.Tuple [.Name x px,.Name x2 px2] tk ptg) iter wi)
  (ht:∀ C s H ex,PIfs (X.compN X.N scope x x2 C s H ex) ifs tt) (he:∀ C s H ex,PE (X.compN X.N scope x x2 C s H ex) elt te) (hs:∀ v,foldedSetIterable iter X.env v=pure v:=by intro _; rfl) :
  PE X (.ListComp elt [⟨.Tuple [.Name x px,.Name x2 px2] tk ptg,iter,ifs,0⟩] scope pos) (tComp2 X.K wi tt te):=by
 intro pins s σ H Q I h;rw [eval_ListComp];exact comp_coreN (use:=none) (M:=X.N) hsc S hx hx2 hxx h0 hN rfl (fun _ _ e=>.inl e) hc hi ht he I h (fun D C s4 H4 _ _ _ _ _ hn inv q=>let ⟨m,hn⟩:=hn; ⟨m,hn,fun h' hs'=>⟨.ref D,H4,inv h' hs',rfl,q⟩⟩) hs
end
end L2
namespace Tw
open PySem L2
def scopeIn:Nat->Expr->Scope
 | 0,_=>{ kind:=.function,names:=[],isGenerator:=false,isCoroutine:=false }
 | k + 1,e=>match e with
  | .ListComp _ _ sc _=>sc
  | .Call _ (a :: _) _ _=>scopeIn k a
  | _=>{ kind:=.function,names:=[],isGenerator:=false,isCoroutine:=false }
def bodyScope (s:Stmt):Scope:=match s with
 | .FunctionDef _ _ (.Return (some e) _ :: _) _ _ _ _ _ _ _=>scopeIn 3 e
 | _=>{ kind:=.function,names:=[],isGenerator:=false,isCoroutine:=false }
def relS (scope sc:Scope):Scope:={ scope with names:=scope.names.map fun (n,k)=>if (k == .free && sc.kind == .function && sc.names.lookup n == some .cell) = true then (n,.cell) else (n,k) }
end Tw
namespace L2
open PySem PySem.Spec PyProof.Rows
variable {X:Cx}{K:PySem.W.Frag}
theorem sl_listK (h:X.K=K):SlR X (rSlL K):=h ▸ d2b
theorem pi_listK {tg l:Expr}{tl:TE}(h:X.K=K)(hl:PE X l tl):PI X tg l (iList K tl):=h ▸ a4p hl
theorem call_allBK (h:X.K=K)(hc:X.calm=true):b2t X (.builtin "all") (rAll K):=h ▸ b4x hc
section
variable {X:Cx}{scope:Scope}{x:Str}{px pos:Pos}{elt iter:Expr}{ifs:List Expr}{wi:TI}{tt:TT}{te:TE}
end
theorem ps_tryQ {st:Stmt}{t:XK->TS}{h₀:ExceptHandler}{hs:List ExceptHandler}{pos:Pos}(hb:PSx X st t):PS X (.Try [st] (h₀ :: hs) [] [] pos) (t fun _ _ _=>False):=by
 intro pins s σ H D I h;refine wpAny_Try_except (wpAny_execs_cons (wpAny_mono (hb pins s σ H D _ I h) (fun f s1 q=>?_) fun e s1 q=>?_))
 ·cases f with
  | next=>exact wpAny_execs_nil (wpAny_execs_nil q)
  | ret v=>exact q
  | brk=>exact q
  | cont=>exact q
 ·obtain ⟨H1,s2,I2,ea,cls,H',B,rfl,F⟩:=q;exact F.want.elim
end L2
namespace Tw
open PySem L2
theorem pigeon:∀ (N M:Nat) (f:Nat->Nat),(∀ i,i < N->f i < M)->(∀ i j,i < N->j < N->f i=f j->i=j)->N <= M
 | 0,_,_,_,_=>Nat.zero_le _
 | N + 1,M,f,h1,h2=>by
  have hy:=h1 N (Nat.lt_succ_self N);have ih:=pigeon N (M - 1) (fun i=>if f i=M - 1 then f N else f i) (fun i hi=>?_) (fun i j hi hj e=>?_)
  ·omega
  ·have a1:=h1 i (by omega)
   by_cases c:f i=M - 1
   ·have:f N ≠ f i:=fun z=>by have:=h2 N i (by omega) (by omega) z; omega
    simp only [if_pos c];omega
   ·simp only [if_neg c];omega
  ·by_cases c:f i=M - 1 <;> by_cases d:f j=M - 1 <;> simp only [if_pos,if_neg,c,d,if_true,if_false] at e
   ·exact h2 i j (by omega) (by omega) (c.trans d.symm)
   ·have:=h2 N j (by omega) (by omega) e; omega
   ·have:=h2 i N (by omega) (by omega) e; omega
   ·exact h2 i j (by omega) (by omega) e
theorem sp_many {l:List Nat}{n:Nat}(f:Nat->Nat)(inj:∀ a b,a < 2 ^ n->b < 2 ^ n->f a=f b->a=b)(h:∀ v,v < 2 ^ n->Spn l (f v)):n <= l.length:=by
 have hc:∀ v,∃ m,v < 2 ^ n->m < 2 ^ l.length/\a5g l m=f v:=fun v=>by
  by_cases c:v < 2 ^ n
  ·obtain ⟨m,h1,h2⟩:=h v c;exact ⟨m,fun _=>⟨h1,h2⟩⟩
  ·exact ⟨0,fun z=>absurd z c⟩
 obtain ⟨g,hg⟩:=Classical.axiomOfChoice hc;have:=pigeon (2 ^ n) (2 ^ l.length) g (fun i hi=>(hg i hi).1) (fun i j hi hj e=>inj i j hi hj (by rw [<- (hg i hi).2,<- (hg j hj).2,e]));exact (Nat.pow_le_pow_iff_right (by decide)).1 this
end Tw
namespace Tw
open PySem L2
def sn (n:Nat)(r:Row):Nat:=r.x ^^^ r.z * 2 ^ n
theorem sn_lt {n:Nat}{r:Row}(ok:r.Ok n):sn n r < 2 ^ (2 * n):=by
 refine Nat.xor_lt_two_pow (Nat.lt_of_lt_of_le ok.x (Nat.pow_le_pow_right (by decide) (by omega))) ?_;rw [show 2 * n=n + n by omega,Nat.pow_add];exact Nat.mul_lt_mul_of_pos_right ok.z (Nat.two_pow_pos n)
def stp (n s:Nat)(g r:Row):Row:=if (sn n r).testBit s=true then tm r g else r
end Tw
namespace Tw
open PySem L2
end Tw
namespace L2
open PySem PySem.Spec PyProof.Rows
variable {T b f:Addr}{fd:FuncData}{G G2 H H':Hp}{cl:List (Str × Addr)}{N:List Str}{k:Nat}{o:Obj}{P:Program}{K:PySem.W.Frag}{σ:St}{Q:VK}
def exO (a:Addr)(o:Obj):HO:=.ext fun h=>h.get? a=some o
section
variable {P:Program}{w:World}{H:Hp}{h:Heap}{a:Addr}{o:Obj}
theorem exO_ok (e:h.get? a=some o):a6c P w H h a (exO a o):=⟨e,⟨o,e⟩,fun _ _ p k=>k o p⟩
theorem c4z (x:a6c P w H h a (exO a o)):h.get? a=some o:=x.1
end
def CodeO (o:Obj)(q:Str):Prop:=∃ vs t,o.data=.fields vs/\vs[1]? = some (.str q t)
structure Lam where
 qual:Str
 params:Arguments
 body:Expr
 scope:Scope
 pos:Pos
def a8h (H:Hp)(T:Addr)(l:Lam):Prop:=∃ ps:Array Value,H T=some (.tbl ps)/\TriplesOk ps.toList/\(codeAmong l.pos ps.toList=none\/∃ c' oc,codeAmong l.pos ps.toList=some (.ref c')/\H c' = some (exO c' oc)/\CodeO oc l.qual)
def c7t (H:Hp)(f:Addr)(l:Lam)(cl:List (Str × Addr)):Prop:=∃ c' oc pm ctv,H f=some (exO f (PySem.W.kla_obj "<lambda>" l.qual l.params l.body l.scope cl pm c' ctv))/\H c' = some (exO c' oc)/\CodeO oc l.qual
def b5f (H H':Hp):Prop:=∀ a o,H a=some o->(∀ ps,o ≠ .tbl ps)->H' a=some o
def SameX (T:Addr)(H H':Hp):Prop:=∀ a o,a ≠ T->H a=some o->H' a=some o
theorem SameX.t {ps:Array Value}(h:SameX T H H')(e:H T=some (.tbl ps)):b5f H H':=fun a o q n=>h a o (fun z=>by rw [z,e] at q; cases q; exact n _ rfl) q
def BltM (mg:Str->Option Value)(base:Heap):Prop:=∃ bm o,mg "__builtins__" = some (.ref bm)/\bm ≠ builtinsNs/\base.get? bm=some o/\o.cls=.type "module"/\o.dict=some builtinsNs/\o.data=.plain
section
variable {X:Cx}{pins:List (Addr × Obj)}{σ:St}{H:Hp}{s:Shared}{T c:Addr}{l:Lam}{cl:List (Str × Addr)}
theorem make_lam {Q:Value->Shared->Prop}(I:Inv X pins σ H s)(hcode:X.env.code=.ref c)(C:PySem.W.CodeHd X.base c T)(B:BltM X.mg X.base)(hq:X.env.qual ++ "<lambda>" = l.qual)(hdef:defaultsOf l.params X.env=([],[]))
  (hcl:closureFor l.scope X.env=pure cl) (t:a8h H T l)
  (h:∀ f H' s',Inv X pins σ H' s'->SameX T H H'->a8h H' T l->H f=none->c7t H' f l cl->Q (.ref f) s') :
  wpAny (model X.prog X.w) X.A (eval (.Lambda l.params l.body l.scope l.pos) X.env) Q X.xe s:=by
 refine PySem.W.kla_eval hdef ?_;rw [hq];obtain ⟨ps,hT,tr,hc⟩:=t;have hP:s.heap.get? T=some (PySem.W.tabObj ps):=I.hok T _ hT;have hns:=I.mod.glob;have hgs:s.heap.Ns mainGlobals X.mg:=hns.keeps I.bk
 have hgT:mainGlobals ≠ T:=fun z=>by
  obtain ⟨o,es,ep,e,_⟩:=hns;have:=(I.bs _ _ e).2;rw [z,hT] at this; cases this
 obtain ⟨bm,ob,b1,b2,b3,b4,b5,b6⟩:=B
 have hbT:bm ≠ T:=fun z=>by
  have:=(I.bs _ _ b3).2;rw [z,hT] at this; cases this
 have hbG:bm ≠ mainGlobals:=fun z=>by
  obtain ⟨o,es,ep,e,hd,_⟩:=hns;rw [z,e] at b3; cases b3; rw [hd] at b6; cases b6
 have hb:s.heap.BuiltinsAt X.mg T:=⟨bm,ob,b1,b2,hbG,hbT,I.bk _ _ b3,b4,b5,b6⟩
 rcases hc with hnf | ⟨c',oc,hf,hc',hoc⟩
 ·refine PySem.W.kla_makeFunction hcl I.ok.glob hgs hcode (C.keeps I.bk) hP tr hnf hgT hb fun c' ctv h' tk hx hge hlt hrec htb=>?_;obtain ⟨c2,oc,vs,tt,e2,hoc,hd,hv⟩:=hrec;cases e2
  have nT:∀ b u,H b=some u->(∀ q,u ≠ .tbl q)->b ≠ T:=fun b u e n z=>by
   rw [z,hT] at e; cases e; exact n _ rfl
  have fc:H c' = none:=I.hok.fresh hge;have hszle:s.heap.objs.size <= h'.objs.size:=Nat.le_trans hge (Nat.le_of_lt hlt);have ff:H h'.objs.size=none:=I.hok.fresh hszle;have fT:T ≠ c':=a0n hT fc;have fTf:T ≠ h'.objs.size:=a0n hT ff;have cf:c' ≠ h'.objs.size:=Nat.ne_of_lt hlt
  have at_:∀ b u,H b=some u->(∀ q,u ≠ .tbl q)->upd (upd (upd H T (.tbl (ps ++ #[rawInt l.pos.line,rawInt l.pos.col,.ref c']))) c' (exO c' oc)) h'.objs.size (exO h'.objs.size (PySem.W.kla_obj "<lambda>" l.qual l.params l.body l.scope cl ((X.mg "__name__").getD .none) c' ctv)) b=some u:=fun b u e n=>by
   rw [a0q (a0n e ff),a0q (a0n e fc),a0q (nT b u e n)];exact e
  have tb_:upd (upd (upd H T (.tbl (ps ++ #[rawInt l.pos.line,rawInt l.pos.col,.ref c']))) c' (exO c' oc)) h'.objs.size (exO h'.objs.size (PySem.W.kla_obj "<lambda>" l.qual l.params l.body l.scope cl ((X.mg "__name__").getD .none) c' ctv)) T=some (.tbl (ps ++ #[rawInt l.pos.line,rawInt l.pos.col,.ref c'])):=by
   rw [a0q fTf,a0q fT,a0c]
  have c_:upd (upd (upd H T (.tbl (ps ++ #[rawInt l.pos.line,rawInt l.pos.col,.ref c']))) c' (exO c' oc)) h'.objs.size (exO h'.objs.size (PySem.W.kla_obj "<lambda>" l.qual l.params l.body l.scope cl ((X.mg "__name__").getD .none) c' ctv)) c' = some (exO c' oc):=by
   rw [a0q cf,a0c]
  have f_:upd (upd (upd H T (.tbl (ps ++ #[rawInt l.pos.line,rawInt l.pos.col,.ref c']))) c' (exO c' oc)) h'.objs.size (exO h'.objs.size (PySem.W.kla_obj "<lambda>" l.qual l.params l.body l.scope cl ((X.mg "__name__").getD .none) c' ctv)) h'.objs.size=some (exO h'.objs.size (PySem.W.kla_obj "<lambda>" l.qual l.params l.body l.scope cl ((X.mg "__name__").getD .none) c' ctv)):=a0c
  have off:∀ b,b ≠ T->b ≠ c'->b ≠ h'.objs.size->upd (upd (upd H T (.tbl (ps ++ #[rawInt l.pos.line,rawInt l.pos.col,.ref c']))) c' (exO c' oc)) h'.objs.size (exO h'.objs.size (PySem.W.kla_obj "<lambda>" l.qual l.params l.body l.scope cl ((X.mg "__name__").getD .none) c' ctv)) b=H b:=fun b h1 h2 h3=>by
   rw [a0q h3,a0q h2,a0q h1]
  have old:∀ b o,s.heap.get? b=some o->b ≠ c'/\b ≠ h'.objs.size:=fun b o e=>⟨Nat.ne_of_lt (Nat.lt_of_lt_of_le (Heap.lt_size e) hge),Nat.ne_of_lt (Nat.lt_of_lt_of_le (Heap.lt_size e) hszle)⟩
  refine h h'.objs.size _ _ (I.un (h':=h'.push (PySem.W.kla_obj "<lambda>" l.qual l.params l.body l.scope cl ((X.mg "__name__").getD .none) c' ctv)) (t':=tk)
   ⟨fun b o e n _ _=>Heap.get?_push_of_some _ (hx b o (fun z=>by rw [z,hT] at n; cases n) e),fun b o e n _ _=>⟨o.slots,Heap.get?_push_of_some _ (hx b o (fun z=>by rw [z,hT] at n; cases n) e)⟩,
    fun b o e n _=>by rw [off b (fun z=>by rw [z,hT] at n; cases n) (old b o e).1 (old b o e).2]; exact n,
    fun b o e _=>?_,fun b xs e=>at_ b _ e (by intro q z; cases z),fun b o u e=>at_ b _ e (by intro q z; cases z),fun b q e=>?_⟩ fun b u e=>?_) (fun b u n e=>by rw [off b n (a0n e fc) (a0n e ff)]; exact e) ⟨_,tb_,?_,.inr ⟨c',oc,?_,c_,vs,tt,hd,hv⟩⟩ ff ⟨c',oc,_,ctv,f_,c_,vs,tt,hd,hv⟩
  ·by_cases z:b=T
   ·exact ⟨_,by rw [z]; exact Heap.get?_push_of_some _ htb⟩
   ·exact ⟨o,Heap.get?_push_of_some _ (hx b o z e)⟩
  ·by_cases z:b=T
   ·subst z;rw [hT] at e; cases e;exact ⟨_,tb_⟩
   ·exact ⟨#[],by rw [off b z (a0n e fc) (a0n e ff),e,Array.append_empty]⟩
  ·by_cases z1:b=h'.objs.size
   ·subst z1;rw [f_] at e; cases e;exact exO_ok (Heap.get?_push_size _ rfl)
   ·by_cases z2:b=c'
    ·subst z2;rw [c_] at e; cases e;exact exO_ok (Heap.get?_push_of_some _ hoc)
    ·by_cases z3:b=T
     ·subst z3;rw [tb_] at e; cases e;exact Heap.get?_push_of_some _ htb
     ·rw [off b z3 z2 z1] at e;refine (I.hok b u e).stay (fun d v hd q=>Heap.get?_push_of_some _ (hx d v ?_ q)) (fun d q=>at_ d _ q (by intro q z; cases z)) fun d xs q=>at_ d _ q (by intro q z; cases z)
      rcases hd with z | z
      ·rw [z]; exact z3
      ·exact nT d _ z (by intro q z; cases z)
  ·rw [Array.toList_append];exact TriplesOk_snoc _ _ _ _ tr
  ·rw [Array.toList_append];exact codeAmong_snoc _ tr hnf
 ·refine PySem.W.kla_makeFunctionHit hcl I.ok.glob hgs hcode (C.keeps I.bk) hP tr hf hb fun ctv h' tk hk hsz=>?_;have ff:H h'.objs.size=none:=I.hok.fresh hsz
  have at_:∀ b u,H b=some u->upd H h'.objs.size (exO h'.objs.size (PySem.W.kla_obj "<lambda>" l.qual l.params l.body l.scope cl ((X.mg "__name__").getD .none) c' ctv)) b=some u:=fun b u e=>by
   rw [a0q (a0n e ff)];exact e
  exact h h'.objs.size _ _ (I.laid (h':=h'.push (PySem.W.kla_obj "<lambda>" l.qual l.params l.body l.scope cl ((X.mg "__name__").getD .none) c' ctv)) (t':=tk) (fun b u e=>Heap.get?_push_of_some _ (hk b u e)) hsz (exO_ok (Heap.get?_push_size _ rfl))) (fun b u _ e=>at_ b u e)
   ⟨ps,at_ _ _ hT,tr,.inr ⟨c',oc,hf,at_ _ _ hc',hoc⟩⟩ ff ⟨c',oc,_,ctv,a0c,at_ _ _ hc',hoc⟩
def tLam (T:Addr)(l:Lam)(cl:List (Str × Addr)):TE:=fun _ H Q=>a8h H T l/\∀ f H',SameX T H H'->a8h H' T l->H f=none->c7t H' f l cl->Q (.ref f) H'
theorem pe_lam {qual:Str}{params:Arguments}{body:Expr}{scope:Scope}{pos:Pos}(C:PySem.W.CodeHd X.base c T)(B:BltM X.mg X.base)(hcode:X.env.code=.ref c:=by rfl)(hq:X.env.qual ++ "<lambda>" = qual:=by rfl)(hdef:defaultsOf params X.env=([],[]):=by rfl)
  (hcl:closureFor scope X.env=pure cl:=by rfl):PE X (.Lambda params body scope pos) (tLam T ⟨qual,params,body,scope,pos⟩ cl):=fun pins s σ H Q I h=>
 make_lam (l:=⟨qual,params,body,scope,pos⟩) I hcode C B hq hdef hcl h.1 fun f H' s' I' a b e d=>⟨.ref f,H',I',rfl,h.2 f H' a b e d⟩
end
structure Cov (N:List Str)(σ:St)(cl:List (Str × Addr))(H G:Hp):Prop where
 off:∀ b,b ∉ cl.map (·.2)->G b=H b
 at_:∀ x c,(x,c) ∈ cl->H c=none/\∃ o,G c=some (exO c o)/\∀ (i:Nat) (v:V),N[i]? = some x->σ[i]? = some (some v)->∃ u,o.data=.cell (some u)/\a6j v u
def unc (cl:List (Str × Addr))(G:Hp):Hp:=fun b=>if b ∈ cl.map (·.2) then none else G b
theorem d2j (h:b ∈ cl.map (·.2)):unc cl G b=none:=if_pos h
theorem a6f (h:b ∉ cl.map (·.2)):unc cl G b=G b:=if_neg h
def tCallC (N:List Str)(sp:Sp)(cl:List (Str × Addr))(t:TA):TE:=fun σ H Q=>t σ H fun vs H1=>∀ G,Cov N σ cl H1 G->sp vs G (fun v G2=>(∀ p ∈ cl,G2 p.2=G p.2)/\Q v (unc cl G2)) E0
section
variable {X:Cx}{j k:Nat}{ps:List Str}{sp:Sp}{x:Str}{p pos:Pos}{e:Expr}{es:List Expr}{t:TA}{cl:List (Str × Addr)}
theorem pe_fnC (c:Cal X.prog X.w X.K X.mg X.base CX0 k x ps sp)(hr:b4y j X.A)(hcl:∀ y a,(y,a) ∈ cl->X.env.cells.lookup y=some a/\X.env.kindOf y=some .cell/\X.fn y=true)(ha:PA X (e :: es) t)(hk:k <= j:=by decide)(hg:Gl X x:=by rfl)(hdb:(x == ("__debug__":Str)) = false:=by decide)
  (he:starEach (e :: es) X.env=(false,eval e X.env) :: starEach es X.env:=by rfl) (hpl:(backTo pos (starEach es X.env)).any (·.1) = false:=by rfl) :
  PE X (.Call (.Name x p) (e :: es) [] pos) (tCallC X.N sp cl t):=by
 obtain ⟨f,fd,F,b,kp,m⟩:=c.ex;intro pins s0 σ H0 Q I0 h;refine wpAny_Call_Name_kw (b7j I0 hg m ?_ hdb);refine PySem.W.callWith_K (h₀:=X.base) I0.ok.mod.kin kp (thn (ha pos pins s0 σ H0 _ I0 h) fun us s ⟨vs,H,I,r,q⟩=>⟨I.kIn,?_⟩) he hpl
 have cin:∀ a,a ∈ cl.map (·.2)->∃ y,(y,a) ∈ cl:=fun a ha=>by
  obtain ⟨q,hq,rfl⟩:=List.mem_map.mp ha;exact ⟨q.1,hq⟩
 have cob:∀ y a,(y,a) ∈ cl->∃ o v,s.heap.get? a=some o/\o.data=.cell v:=fun y a hm=>by
  obtain ⟨v,o,ho,hd⟩:=I.cell y a (hcl y a hm).1;exact ⟨o,v,ho,hd⟩
 have cno:∀ a,a ∈ cl.map (·.2)->H a=none:=fun a ha=>by
  obtain ⟨y,hm⟩:=cin a ha;exact I.freeC y a (hcl y a hm).1
 have cge:∀ a,a ∈ cl.map (·.2)->X.s₀.heap.objs.size <= a:=fun a ha=>by
  obtain ⟨y,hm⟩:=cin a ha;exact I.ok.cab y a (hcl y a hm).2.2 (hcl y a hm).1
 have G_:∃ G:Hp,(∀ b,b ∉ cl.map (·.2)->G b=H b)/\∀ a o,a ∈ cl.map (·.2)->s.heap.get? a=some o->G a=some (exO a o):=
  ⟨fun b=>if b ∈ cl.map (·.2) then (s.heap.get? b).map (exO b) else H b,fun b hb=>if_neg hb,fun a o ha e=>(if_pos ha).trans (by rw [e]; rfl)⟩
 obtain ⟨G,Goff,Gat⟩:=G_;have trk:∀ b u,H b=some u->b ∉ cl.map (·.2):=fun b u e z=>by rw [cno b z] at e; cases e
 have cov:Cov X.N σ cl H G:=⟨Goff,fun y a hm=>by
  have ha:a ∈ cl.map (·.2):=List.mem_map.mpr ⟨(y,a),hm,rfl⟩
  obtain ⟨o,v,ho,hd⟩:=cob y a hm;refine ⟨cno a ha,o,Gat a o ha ho,fun i w e1 e2=>?_⟩;obtain ⟨mm,hn,hl⟩:=I.loc;have hkk:X.env.scope.names.lookup y=some .cell:=(hcl y a hm).2.1;obtain ⟨u,ru,lk⟩:=hl i y w e1 e2 (.inr (.inl hkk))
  rcases lk with ⟨k1,_⟩ | ⟨_,a2,l2,o2,ho2,hd2⟩
  ·rw [(hcl y a hm).2.1] at k1; cases k1
  ·rw [(hcl y a hm).1] at l2; cases l2;rw [ho] at ho2; cases ho2
   exact ⟨u,hd2,ru⟩⟩
 have hokG:HOk X.prog X.w G s.heap:=fun b u e2=>by
  by_cases hb:b ∈ cl.map (·.2)
  ·obtain ⟨y,hm⟩:=cin b hb;obtain ⟨o,v,ho,_⟩:=cob y b hm;rw [Gat b o hb ho] at e2; cases e2;exact exO_ok ho
  ·rw [Goff b hb] at e2;exact (I.hok b u e2).stay (fun d v _ q=>q) (fun d q=>by rw [Goff d (trk d _ q)]; exact q) fun d xs q=>by rw [Goff d (trk d _ q)]; exact q
 have inb:∀ b o,X.base.get? b=some o->b ∉ cl.map (·.2):=fun b o e2 z=>by
  have h1:=Nat.lt_of_lt_of_le (Heap.lt_size e2) I.ok.bsz;exact absurd (Nat.lt_of_lt_of_le h1 (cge b z)) (Nat.lt_irrefl _)
 have nstk:∀ b ∈ frs X.stack,b ∉ cl.map (·.2):=fun b hb z=>by
  obtain ⟨y,hm⟩:=cin b z
  rcases List.mem_cons.mp (I.stkSub b hb) with z2 | z2
  ·exact I.cne y b (hcl y b hm).1 z2
  ·obtain ⟨_,o,ho,_⟩:=I.ok.funs.mem z2;exact absurd (Nat.lt_of_lt_of_le (Heap.lt_size ho) (cge b z)) (Nat.lt_irrefl _)
 have e0:=I.env0;have e0G:Env0 X.prog X.w X.K X.mg X.base X.A X.stack s G:=⟨e0.frames,e0.mod,fun b o e2=>⟨(e0.bs b o e2).1,by rw [Goff b (inb b o e2)]; exact (e0.bs b o e2).2⟩,e0.bsz,e0.funs,fun b hb=>by rw [Goff b (nstk b hb)]; exact e0.frf b hb,hokG,e0.bare⟩;have hl:us.length=ps.length:=by rw [<- r.length]; exact F.len _ _ _ _ (q G cov)
 have hbd:=b s us I.kIn (by rw [List.append_nil]; exact hl);rw [List.append_nil] at hbd;refine wpAny_call (codeAny_mono (F.run X.A X.stack s G ⟨us,[]⟩ us vs _ E0 (hr.mono hk) e0G hbd r (q G cov)) fun rr s' hq=>?_)
 cases rr with
 | error e=>exact False.elim hq
 | ok fl=>
  cases fl with
  | next=>exact False.elim hq
  | brk=>exact False.elim hq
  | cont=>exact False.elim hq
  | ret u=>
   obtain ⟨v,G2,os,bare,un,hok2,rv,hcells,hQ⟩:=hq
   have c2:∀ a o,a ∈ cl.map (·.2)->s.heap.get? a=some o->s'.heap.get? a=some o:=fun a o ha e2=>by
    obtain ⟨q2,hq2,rfl⟩:=List.mem_map.mp ha;have:=hcells q2 hq2;rw [Gat q2.2 o ha e2] at this;exact c4z (hok2 _ _ this)
   have c3:∀ a u,a ∈ cl.map (·.2)->G2 a=some u->∃ o,u=exO a o:=fun a u ha e2=>by
    obtain ⟨y,hm⟩:=cin a ha;obtain ⟨o,_,ho,_⟩:=cob y a hm;have:=hcells (y,a) hm;rw [Gat a o ha ho] at this;rw [this] at e2;exact ⟨o,(Option.some.inj e2).symm⟩
   have un2:Un (frs X.stack) [] H (unc cl G2) s.heap s'.heap:=by
    refine ⟨fun b o e2 n hb hx=>?_,fun b o e2 n hb hx=>?_,fun b o e2 n hx=>?_,fun b o e2 hx=>?_,fun b xs e2=>?_,fun b o u e2=>?_,fun b q e2=>?_⟩
    ·by_cases z:b ∈ cl.map (·.2)
     ·exact c2 b o z e2
     ·exact un.keep b o e2 (by rw [Goff b z]; exact n) hb hx
    ·have z:=nstk b hb;exact un.slot b o e2 (by rw [Goff b z]; exact n) hb hx
    ·by_cases z:b ∈ cl.map (·.2)
     ·exact d2j z
     ·rw [a6f z];exact un.free b o e2 (by rw [Goff b z]; exact n) hx
    ·exact un.there b o e2 hx
    ·have z:=trk b _ e2;rw [a6f z];exact un.tups b xs (by rw [Goff b z]; exact e2)
    ·have z:=trk b _ e2;rw [a6f z];exact un.frzs b o u (by rw [Goff b z]; exact e2)
    ·have z:=trk b _ e2;obtain ⟨m1,e3⟩:=un.tbls b q (by rw [Goff b z]; exact e2);exact ⟨m1,by rw [a6f z]; exact e3⟩
   have hokU:HOk X.prog X.w (unc cl G2) s'.heap:=fun b u e2=>by
    by_cases z:b ∈ cl.map (·.2)
    ·rw [d2j z] at e2; cases e2
    ·rw [a6f z] at e2
     have outs:∀ d u2,G2 d=some u2->(∀ o,u2 ≠ exO d o)->d ∉ cl.map (·.2):=fun d u2 e3 n z2=>by
      obtain ⟨o,z3⟩:=c3 d u2 z2 e3;exact n o z3
     exact (hok2 b u e2).stay (fun d v _ q=>q) (fun d q=>by rw [a6f (outs d _ q (by intro o z3; cases z3))]; exact q) fun d xs q=>by rw [a6f (outs d _ q (by intro o z3; cases z3))]; exact q
   obtain ⟨hh,g,d,tk,os'⟩:=s';obtain rfl:os' = s.os:=os;exact ⟨v,unc cl G2,I.call (h':=hh) (g':=g) (d':=d) (t':=tk) (ch:=[]) un2 hokU bare (fun b z=>absurd z (by simp)),rv,hQ⟩
end
structure d6n (N ps:List Str)(l:Lam)(cl:List (Str × Addr)):Prop where
 kind:l.scope.kind=.function
 co:l.scope.isCoroutine=false
 gen:l.scope.isGenerator=false
 nd:N.Nodup
 pre:N.take ps.length=ps
 par:∀ x ∈ ps,l.scope.names.lookup x=some .local
 post:∀ (i:Nat) (x:Str),ps.length <= i->N[i]? = some x->l.scope.names.lookup x=some .free
 nocell:∀ x ∈ l.scope.names,x.2 ≠ .cell
 fr:∀ x,l.scope.names.lookup x=some .free->∃ c,cl.lookup x=some c
 inj:∀ x y c,cl.lookup x=some c->cl.lookup y=some c->x=y
 binds:∀ (pm ctv:Value) (c':Addr) (us:List Value),us.length=ps.length->bindArgs (PySem.W.kla_fn "<lambda>" l.qual l.params l.body l.scope cl pm (.ref c') ctv) ⟨us,[]⟩ = pure (ps.zip us)
theorem lookup_nd {l:List (Str × Value)}:∀ {x:Str} {v:Value},(l.map (·.1)).Nodup->(x,v) ∈ l->l.lookup x=some v:=by
 induction l with
 | nil=>intro x v _ h; cases h
 | cons p l ih=>
  intro x v nd h;obtain ⟨y,u⟩:=p;rw [List.map_cons,List.nodup_cons] at nd
  rcases List.mem_cons.mp h with h | h
  ·cases h;rw [List.lookup_cons];simp
  ·have ne:x ≠ y:=fun z=>nd.1 (z ▸ List.mem_map.mpr ⟨(x,v),h,rfl⟩);rw [List.lookup_cons,show (x == y) = false from beq_eq_false_iff_ne.mpr ne];exact ih nd.2 h
def lamCx (P:Program)(w:World)(K:PySem.W.Frag)(mg:Str->Option Value)(base:Heap)(N:List Str)(qual:Str)(scope:Scope)(f:Addr)(cd:Value)(cl:List (Str × Addr))(A:Around)(outer:List Env)(s:Shared)(H:Hp):Cx where
 prog:=P
 w:=w
 K:=K
 mg:=mg
 base:=base
 A:=A.deeper (PySem.W.envX qual scope s.heap.objs.size f cd cl)
 N:=N
 s₀:=s
 H₀:=H
 env:=PySem.W.envX qual scope s.heap.objs.size f cd cl
 outer:=outer
 stack:=PySem.W.envX qual scope s.heap.objs.size f cd cl :: outer
 ex:=[]
 calm:=true
 fn:=fun _=>false
 pn:=[]
 xe:=fun _ _=>False
def rec_ (cl:List (Str × Addr))(G H:Hp):Hp:=fun b=>if b ∈ cl.map (·.2) then G b else H b
def CellsAt (G:Hp)(N:List Str)(cl:List (Str × Addr))(σ:St):Prop:=∀ x c,cl.lookup x=some c->∃ o u,G c=some (exO c o)/\o.data=.cell (some u)/\∀ (i:Nat) (v:V),N[i]? = some x->σ[i]? = some (some v)->a6j v u
theorem run_lam {w:World}{mg:Str->Option Value}{base:Heap}{ps:List Str}{l:Lam}(S:d6n N ps l cl){A:Around}{outer:List Env}{s:Shared}{us:List Value}{vs ws:List V}{E:XK}
  (hr:b4y (k + 1) A) (e0:Env0 P w K mg base A outer s G) (r:a6q vs us) (hl:vs.length=ps.length) (hN:N.length=vs.length + ws.length) (L:c7t G f l cl) (hc:CellsAt G N cl ((vs ++ ws).map some)) (hcm:∀ p ∈ cl,∃ x,cl.lookup x=some p.2)
  (hbody:∀ c':Addr,∃ t,PE (lamCx P w K mg base N l.qual l.scope f (.ref c') cl A outer s (unc cl G)) l.body t/\t ((vs ++ ws).map some) (unc cl G) fun v H'=>Q v (rec_ cl G H')) :
  codeAny (model P w) A (.call (.ref f) ⟨us,[]⟩) (CR CX0 outer P w G s Q E) s:=by
 obtain ⟨c',oc,pm,ctv,hf,hc',vs',tt,hd,hv⟩:=L;have ho:=c4z (e0.hok _ _ hf);have hoc:=c4z (e0.hok _ _ hc');have lim:s.heap.NoLimit:=e0.mod.nolimit.keeps fun b o e=>(e0.bs b o e).1;have lu:us.length=ps.length:=by rw [<- r.length]; exact hl
 have hloc:∀ y ∈ ps.zip us,l.scope.names.lookup y.1=some .local:=fun ⟨n,v⟩ hy=>S.par n (List.of_mem_zip hy).1;obtain ⟨t,ht,hq⟩:=hbody c';refine PySem.W.kla_callFunE hr.depth ho rfl S.co S.gen rfl ⟨c',oc,vs',tt,rfl,hoc,hd,hv⟩ ?_;rw [S.binds pm ctv c' us lu];refine wpAny_pure (wpAny_newFunctionEnv S.nocell hloc (fun h₁ hns hsb=>⟨lim.fresh _ hsb,?_⟩) S.kind);show codeAny _ _ (.expr l.body (PySem.W.envX l.qual l.scope s.heap.objs.size f (.ref c') cl)) _ _;have hk₁:∀ b o,s.heap.get? b=some o->h₁.get? b=some o:=fun b o e=>hsb.extBut b o (Nat.ne_of_lt (Heap.lt_size e)) (Heap.get?_push_of_some _ e)
 have cin:∀ a,a ∈ cl.map (·.2)->∃ x,cl.lookup x=some a:=fun a ha=>by
  obtain ⟨q,hq,rfl⟩:=List.mem_map.mp ha;exact hcm q hq
 have cat:∀ x a,cl.lookup x=some a->a ∈ cl.map (·.2):=fun x a h=>List.mem_map.mpr ⟨(x,a),PySem.mem_of_lookup h,rfl⟩
 have cob:∀ a,a ∈ cl.map (·.2)->∃ o u,G a=some (exO a o)/\o.data=.cell (some u)/\s.heap.get? a=some o:=fun a ha=>by
  obtain ⟨x,hx⟩:=cin a ha;obtain ⟨o,u,h1,h2,_⟩:=hc x a hx;exact ⟨o,u,h1,h2,c4z (e0.hok _ _ h1)⟩
 have hokU:HOk P w (unc cl G) h₁:=fun b u e=>by
  by_cases z:b ∈ cl.map (·.2)
  ·rw [d2j z] at e; cases e
  ·rw [a6f z] at e
   have outs:∀ d u2,G d=some u2->(∀ o,u2 ≠ exO d o)->d ∉ cl.map (·.2):=fun d u2 e3 n z2=>by
    obtain ⟨o,_,h1,_⟩:=cob d z2;rw [h1] at e3;exact n o (Option.some.inj e3).symm
   exact (e0.hok b u e).stay (fun d v _ q=>hk₁ _ _ q) (fun d q=>by rw [a6f (outs d _ q (by intro o z3; cases z3))]; exact q) fun d xs q=>by rw [a6f (outs d _ q (by intro o z3; cases z3))]; exact q
 have nofr:∀ b,G b=none->unc cl G b=none:=fun b n=>by
  by_cases z:b ∈ cl.map (·.2)
  ·exact d2j z
  ·rw [a6f z]; exact n
 have noA:∀ b:Addr,b ∉ ([]:List Addr):=fun b z=>nomatch z
 have I:Inv (lamCx P w K mg base N l.qual l.scope f (.ref c') cl A outer s (unc cl G)) [] ((vs ++ ws).map some) (unc cl G) { s with heap:=h₁,toks:=s.toks + (ps.zip us).length }:=by
  refine ⟨⟨e0.mod,S.kind,rfl,rfl,Nat.le_refl _,fun x y c h1 h2=>S.inj x y c h1 h2,fun y hy=>?_,fun y c z=>(by cases z),fun _=>hr.hd,Around.frames_deeper e0.frames,.inr ⟨rfl,rfl⟩,fun b z=>(nomatch z),fun b o e=>⟨(e0.bs b o e).1,nofr b (e0.bs b o e).2⟩,e0.bsz,fun b _ _ z=>(nomatch z),fun b z=>(nomatch z),e0.funs,fun b hb=>nofr b (e0.frf b hb)⟩,
   rfl,e0.bare,Un.kept hk₁,⟨_,hns,fun i x v e1 e2 e3=>?_⟩,fun x c h=>?_,?_,fun x c h=>d2j (cat x c h),fun p hp=>(nomatch hp),hokU,?_⟩
  ·have hy':l.scope.names.lookup y=some .cell\/l.scope.names.lookup y=some .free:=hy
   rcases hy' with hy' | hy'
   ·exact absurd rfl (S.nocell _ (PySem.mem_of_lookup hy'))
   ·exact S.fr y hy'
  ·have e1':N[i]? = some x:=e1;have e3':Vis l.scope x:=e3
   rcases e3' with k1 | k1 | k1
   ·have hi:i < ps.length:=by
     rcases Nat.lt_or_ge i ps.length with z | z
     ·exact z
     ·rw [S.post i x z e1'] at k1; cases k1
    have hvi:vs[i]? = some v:=by
     rw [List.getElem?_map,List.getElem?_append_left (by omega)] at e2
     cases e4:vs[i]? with
     | none=>rw [e4] at e2; cases e2
     | some a=>rw [e4] at e2; cases e2; rfl
    obtain ⟨u,hu,rv⟩:=r.get hvi;have hp:ps[i]? = some x:=by rw [<- S.pre,List.getElem?_take_of_lt hi]; exact e1'
    have ndP:ps.Nodup:=by rw [<- S.pre]; exact S.nd.sublist (List.take_sublist _ _)
    refine ⟨u,rv,.inl ⟨k1,?_⟩⟩;have hm:(x,u) ∈ ps.zip us:=List.mem_of_getElem? (i:=i) (by rw [List.getElem?_zip_eq_some]; exact ⟨hp,hu⟩);refine lookup_nd ?_ (List.mem_reverse.mpr hm);rw [List.map_reverse];have e5:(ps.zip us).map (·.1) = ps:=List.map_fst_zip (by omega)
    rw [e5];exact (List.reverse_perm ps).symm.nodup ndP
   ·exact absurd rfl (S.nocell _ (PySem.mem_of_lookup k1))
   ·obtain ⟨c,hcx⟩:=S.fr x k1;obtain ⟨o,u,h1,h2,h3⟩:=hc x c hcx;exact ⟨u,h3 i v e1' e2,.inr ⟨.inr k1,c,hcx,o,hk₁ _ _ (c4z (e0.hok _ _ h1)),h2⟩⟩
  ·obtain ⟨o,u,h1,h2,h3⟩:=cob c (cat x c h);exact ⟨some u,o,hk₁ _ _ h3,h2⟩
  ·exact nofr _ (e0.hok.fresh (Nat.le_refl _))
  ·rw [List.length_map,List.length_append];exact hN.symm
 refine PySem.W.kla_codeExpr (wpAny_mono (ht [] _ _ _ _ I hq) (fun v s' hv=>?_) fun _ _ z=>False.elim z);obtain ⟨x,H',J,rv,hQ⟩:=hv;have un:Un (frs outer) [] (unc cl G) H' s.heap s'.heap:=J.base
 have ncl:∀ a,a ∈ cl.map (·.2)->∀ o,s.heap.get? a=some o->H' a=none/\s'.heap.get? a=some o:=fun a ha o e=>by
  obtain ⟨o2,u,h1,h2,h3⟩:=cob a ha;have nf:a ∉ frs outer:=fun z=>by rw [e0.frf a z] at h1; cases h1
  exact ⟨un.free a o e (d2j ha) (by simp),un.keep a o e (d2j ha) nf (by simp)⟩
 refine ⟨x,rec_ cl G H',J.os,J.bare,⟨fun b o e n hb hx=>un.keep b o e (nofr b n) hb hx,fun b o e n hb hx=>un.slot b o e (nofr b n) hb hx,fun b o e n hx=>?_,fun b o e hx=>un.there b o e hx,fun b xs e=>?_,fun b o u e=>?_,fun b q e=>?_⟩,fun b u e=>?_,rv,hQ⟩
 ·have z:b ∉ cl.map (·.2):=fun z=>by
   obtain ⟨o2,u,h1,_⟩:=cob b z;rw [n] at h1; cases h1
  show (if b ∈ cl.map (·.2) then G b else H' b) = none
  rw [if_neg z];exact un.free b o e (nofr b n) hx
 ·have z:b ∉ cl.map (·.2):=fun z=>by
   obtain ⟨o2,u,h1,_⟩:=cob b z;rw [e] at h1; cases h1
  show (if b ∈ cl.map (·.2) then G b else H' b) = _
  rw [if_neg z];exact un.tups b xs (by rw [a6f z]; exact e)
 ·have z:b ∉ cl.map (·.2):=fun z=>by
   obtain ⟨o2,u,h1,_⟩:=cob b z;rw [e] at h1; cases h1
  show (if b ∈ cl.map (·.2) then G b else H' b) = _
  rw [if_neg z];exact un.frzs b o u (by rw [a6f z]; exact e)
 ·have z:b ∉ cl.map (·.2):=fun z=>by
   obtain ⟨o2,u,h1,_⟩:=cob b z;rw [e] at h1; cases h1
  obtain ⟨m1,e3⟩:=un.tbls b q (by rw [a6f z]; exact e);refine ⟨m1,?_⟩;show (if b ∈ cl.map (·.2) then G b else H' b) = _
  rw [if_neg z];exact e3
 ·have e':(if b ∈ cl.map (·.2) then G b else H' b) = some u:=e
  by_cases z:b ∈ cl.map (·.2)
  ·rw [if_pos z] at e';obtain ⟨o2,u2,h1,h2,h3⟩:=cob b z;rw [h1] at e'; cases e';exact exO_ok (ncl b z o2 h3).2
  ·rw [if_neg z] at e'
   have outs:∀ d u2,H' d=some u2->d ∉ cl.map (·.2):=fun d u2 e3 z2=>by
    obtain ⟨o,_,_,_,h3⟩:=cob d z2;rw [(ncl d z2 o h3).1] at e3; cases e3
   refine (J.hok b u e').stay (fun d v _ q=>q) (fun d q=>?_) fun d xs q=>?_
   ·show (if d ∈ cl.map (·.2) then G d else H' d) = _
    rw [if_neg (outs d _ q)]; exact q
   ·show (if d ∈ cl.map (·.2) then G d else H' d) = _
    rw [if_neg (outs d _ q)]; exact q
theorem rec_unc (cl:List (Str × Addr))(G:Hp):rec_ cl G (unc cl G) = G:=by
 funext b
 unfold rec_ unc
 by_cases z:b ∈ cl.map (·.2)
 ·rw [if_pos z]
 ·rw [if_neg z,if_neg z]
structure LCal (P:Program)(w:World)(K:PySem.W.Frag)(mg:Str->Option Value)(base:Heap)(k:Nat)(L:Addr->List V->Hp->VK->Prop):Prop where
 fn:∀ f vs H Q,L f vs H Q->∃ o fd,H f=some (exO f o)/\o.data=.func fd
 run:∀ (f:Addr) (A:Around) (outer:List Env) (s:Shared) (H:Hp) (us:List Value) (vs:List V) (Q:VK),b4y k A->Env0 P w K mg base A outer s H->a6q vs us->L f vs H Q->
  codeAny (model P w) A (.call (.ref f) ⟨us,[]⟩) (CR CX0 outer P w H s Q E0) s
def tCallF (i:Nat)(L:Addr->List V->Hp->VK->Prop)(t:TA):TE:=fun σ H Q=>∃ f o fd,σ[i]? = some (some (.ref f))/\H f=some (exO f o)/\o.data=.func fd/\t σ H fun vs H1=>L f vs H1 Q
theorem fn_at {w:World}{h:Heap}(ok:HOk P w H h)(e:H f=some (exO f o))(d:o.data=.func fd):PySem.W.FnAt f h:=by
 have:=c4z (ok _ _ e);obtain ⟨a,b,c,d'⟩:=o;cases d;exact ⟨_,_,_,_,this⟩
theorem pe_callF {X:Cx}{j:Nat}{x:Str}{p pos:Pos}{e:Expr}{es:List Expr}{t:TA}{L:Addr->List V->Hp->VK->Prop}(i:Nat)(c:LCal X.prog X.w X.K X.mg X.base k L)(hr:b4y j X.A)(ha:PA X (e :: es) t)(hk:k <= j:=by decide)
  (hN:X.N[i]? = some x:=by rfl) (hv:Vis X.env.scope x:=by first | exact Or.inl rfl | exact Or.inr (Or.inl rfl) | exact Or.inr (Or.inr rfl)) (hd:(x == ("__debug__":Str)) = false:=by decide) (hcd:(x == ("__classdict__":Str)) = false:=by decide)
  (he:starEach (e :: es) X.env=(false,eval e X.env) :: starEach es X.env:=by rfl) (hpl:(backTo pos (starEach es X.env)).any (·.1) = false:=by rfl) :
  PE X (.Call (.Name x p) (e :: es) [] pos) (tCallF i L t):=by
 intro pins s0 σ H0 Q I0 h;obtain ⟨f,o,fd,hσ,hf,hfd,h⟩:=h;refine wpAny_Call_Name_kw (thn (pe_var (pos:=p) hN hv hd hcd pins s0 σ H0 (fun v H1=>v=.ref f/\H1=H0) I0 ⟨.ref f,hσ,rfl,rfl⟩) fun u s1 ⟨v,H1,I1,r1,q1,q2⟩=>?_);subst q1 q2;obtain rfl:u=Value.ref f:=r1;refine PySem.W.callWith_F (fn_at I1.hok hf hfd) (thn (ha pos pins s1 σ H1 _ I1 h) fun us s ⟨vs,H,I,r,q⟩=>?_) he hpl;obtain ⟨o2,fd2,e2,d2⟩:=c.fn f vs H Q q;refine ⟨fn_at I.hok e2 d2,wpAny_call (codeAny_mono (c.run f X.A X.stack s H us vs Q (hr.mono hk) I.env0 r q) fun rr s' hq=>?_)⟩
 cases rr with
 | error e=>exact False.elim hq
 | ok fl=>
  cases fl with
  | ret u=>exact I.after hq
  | next=>exact False.elim hq
  | brk=>exact False.elim hq
  | cont=>exact False.elim hq
def lamIn (q:Str)(st:Stmt):Lam:=match (a2z st).getLast? with
 | some (.Return (some (.Call _ as _ _)) _)=>(match as.getLast? with
  | some (.Lambda ps b sc pos)=>⟨q,ps,b,sc,pos⟩
  | _=>⟨q,a3n st,.Name "" ⟨0,0,0,0⟩,a0f st,⟨0,0,0,0⟩⟩)
 | _=>⟨q,a3n st,.Name "" ⟨0,0,0,0⟩,a0f st,⟨0,0,0,0⟩⟩
theorem a8h.same {l:Lam}(s:∀ a o,H a=some o->H' a=some o)(h:a8h H T l):a8h H' T l:=by
 obtain ⟨ps,h1,h2,h3⟩:=h;exact ⟨ps,s _ _ h1,h2,h3.imp id fun ⟨c,o,g1,g2,g3⟩=>⟨c,o,g1,s _ _ g2,g3⟩⟩
theorem a8h.other {T':Addr}{l:Lam}{ps':Array Value}(s:SameX T' H H')(n:T ≠ T')(e:H T' = some (.tbl ps'))(h:a8h H T l):a8h H' T l:=by
 obtain ⟨ps,h1,h2,h3⟩:=h;exact ⟨ps,s _ _ n h1,h2,h3.imp id fun ⟨c,o,g1,g2,g3⟩=>⟨c,o,g1,s _ _ (fun z=>by rw [z,e] at g2; cases g2) g2,g3⟩⟩
theorem c7t.same {l:Lam}(s:∀ a o,H a=some o->H' a=some o)(h:c7t H f l cl):c7t H' f l cl:=by
 obtain ⟨c,oc,pm,ctv,h1,h2,h3⟩:=h;exact ⟨c,oc,pm,ctv,s _ _ h1,s _ _ h2,h3⟩
theorem Cov.same (c:Cov N σ cl H G):∀ a o,H a=some o->G a=some o:=fun a o e=>by
 rw [c.off a fun z=>?_]
 ·exact e
 ·obtain ⟨p,hp,rfl⟩:=List.mem_map.mp z;have:=(c.at_ p.1 p.2 hp).1;rw [e] at this; cases this
theorem Cov.un (c:Cov N σ cl H G)(s:∀ a o,G a=some o->G2 a=some o):∀ a o,H a=some o->unc cl G2 a=some o:=fun a o e=>by
 rw [a6f fun z=>?_]
 ·exact s _ _ (c.same a o e)
 ·obtain ⟨p,hp,rfl⟩:=List.mem_map.mp z;have:=(c.at_ p.1 p.2 hp).1;rw [e] at this; cases this
theorem Cov.keeps (c:Cov N σ cl H G)(s:∀ a o,G a=some o->G2 a=some o):∀ p ∈ cl,G2 p.2=G p.2:=fun p hp=>by
 obtain ⟨_,o,e,_⟩:=c.at_ p.1 p.2 hp;rw [e,s _ _ e]
theorem d8m {sp:Sp}{t:TA}(h:t σ H fun vs H1=>∀ G,Cov N σ cl H1 G->sp vs G (fun v G2=>(∀ p ∈ cl,G2 p.2=G p.2)/\Q v (unc cl G2)) E0):tCallC N sp cl t σ H Q:=h
theorem st_lam {l:Lam}(t:a8h H T l)(h:∀ f H',SameX T H H'->a8h H' T l->H f=none->c7t H' f l cl->Q (.ref f) H'):tLam T l cl σ H Q:=⟨t,h⟩
theorem st_callF {i:Nat}{L:Addr->List V->Hp->VK->Prop}{t:TA}(e:σ[i]? = some (some (.ref f)))(h1:H f=some (exO f o))(h2:o.data=.func fd)(h:t σ H fun vs H1=>L f vs H1 Q):tCallF i L t σ H Q:=⟨f,o,fd,e,h1,h2,h⟩
theorem a8h.start {l:Lam}(h:H T=some (.tbl #[])):a8h H T l:=⟨#[],h,trivial,.inl rfl⟩
theorem SqT.stayT {a:Addr}{xs:List V}(s:b5f H H')(h:SqT K H a xs):SqT K H' a xs:=by
 rcases h with (h | ⟨o,h⟩) | h
 ·exact .inl (.inl (s _ _ h (by intro p z; cases z)))
 ·exact .inl (.inr ⟨o,s _ _ h (by intro p z; cases z)⟩)
 ·exact .inr h
end L2
namespace L2
open PySem PySem.Spec PyProof.Rows
variable {c f:Addr}{fd:FuncData}{tabs:List (Addr × Addr)}{ps:List Str}{k:Nat}{sp:Sp}{st:Stmt}{qual x:Str}
structure FunC (K:PySem.W.Frag)(x qual:Str)(st:Stmt)(f:Addr)(fd:FuncData)(c:Addr):Prop where
 ex:∃ (oc:Value) (od:Option Addr) (kV doc pm:Value) (an:Option Addr) (ct:Value) (osl:Array (Option Value)),
  fd=PySem.W.fnOf x qual (a3n st) (a2z st) (a0f st) .none kV doc pm an (.ref c) ct/\K.lookup f=some ⟨oc,od,.func fd,osl⟩/\PySem.W.codeIn K (.ref c) qual=true
 kp:PySem.W.keepIn K (.ref f) = true
section
variable {P:Program}{w:World}{K:PySem.W.Frag}{mg:Str->Option Value}{base:Heap}
theorem FunC.ok {N:List Str}(F:FunC K x qual st f fd c)(S:a0r N ps (a0f st))(len:∀ vs H Q E,sp vs H Q E->vs.length=ps.length)
  (hbody:∀ (A:Around) (outer:List Env) (s:Shared) (H:Hp) (vs:List V) (Q:VK) (E:XK),b4y k (A.deeper (envOfC qual (a0f st) s.heap.objs.size f (.ref c)))->sp vs H Q E->
   ∃ t,PSs (cxOf CX0 P w K mg base N qual (a0f st) f (.ref c) A outer s H E).nox (a2z st) t/\t { nx:=fun _ H'=>Q .non H',rt:=Q } (start N vs) H):a2s P w K mg base CX0 (k + 1) f fd ps sp:=by
 obtain ⟨oc,od,kV,doc,pm,an,ct,osl,rfl,lk,hcd⟩:=F.ex;refine fn_of lk hcd S len fun A outer s H vs Q E hr hsp=>?_;obtain ⟨t,h,q⟩:=hbody A outer s H vs Q E hr hsp;exact ⟨t,h.nox,q⟩
theorem FunC.binds (F:FunC K x qual st f fd c)
  (h:∀ (kV doc pm:Value) (an:Option Addr) (cdv ct:Value) (us:List Value),us.length=ps.length->bindArgs (PySem.W.fnOf x qual (a3n st) (a2z st) (a0f st) .none kV doc pm an cdv ct) ⟨us,[]⟩ = pure (ps.zip us)):c1u K fd ps []:=by
 obtain ⟨oc,od,kV,doc,pm,an,ct,osl,rfl,lk,hcd⟩:=F.ex;exact .all (h kV doc pm an (.ref c) ct)
theorem d8r {oc:Value}{od an:Option Addr}{osl:Array (Option Value)}{kV doc pm ct:Value}(l:K.lookup f=some ⟨oc,od,.func (PySem.W.fnOf x qual (a3n st) (a2z st) (a0f st) .none kV doc pm an (.ref c) ct),osl⟩)
  (h:PySem.W.codeIn K (.ref c) qual=true) (k:PySem.W.keepIn K (.ref f) = true):FunC K x qual st f (PySem.W.fnOf x qual (a3n st) (a2z st) (a0f st) .none kV doc pm an (.ref c) ct) c:=⟨⟨oc,od,kV,doc,pm,an,ct,osl,rfl,l,h⟩,k⟩
end
theorem pe_fnL {X:Cx}{j:Nat}{p pos lpos:Pos}{e body:Expr}{params:Arguments}{scope:Scope}{te:TE}{cl:List (Str × Addr)}{c0 T:Addr}(c:Cal X.prog X.w X.K X.mg X.base CX0 k x ps sp)(hr:b4y j X.A)(C:PySem.W.CodeHd X.base c0 T)(B:BltM X.mg X.base)(he:PE X e te)
  (hk:k <= j:=by decide) (hg:Gl X x:=by rfl) (hdb:(x == ("__debug__":Str)) = false:=by decide)
  (hcode:X.env.code=.ref c0:=by rfl) (hq:X.env.qual ++ "<lambda>" = qual:=by rfl) (hdef:defaultsOf params X.env=([],[]):=by rfl) (hc0:closureFor scope X.env=pure cl:=by rfl)
  (h1:starEach [e,.Lambda params body scope lpos] X.env=(false,eval e X.env) :: starEach [.Lambda params body scope lpos] X.env:=by rfl) (h2:(backTo pos (starEach [.Lambda params body scope lpos] X.env)).any (·.1) = false:=by rfl)
  (h3:starEach [.Lambda params body scope lpos] X.env=(false,eval (.Lambda params body scope lpos) X.env) :: starEach [] X.env:=by rfl)
  (hcl:∀ y a,(y,a) ∈ cl->X.env.cells.lookup y=some a/\X.env.kindOf y=some .cell/\X.fn y=true:=by (intro y a h; first | (cases h with | head=>exact ⟨rfl,rfl,rfl⟩ | tail _ h=>cases h) | (cases h with | head=>exact ⟨rfl,rfl,rfl⟩ | tail _ h=>cases h with | head=>exact ⟨rfl,rfl,rfl⟩ | tail _ h=>cases h))) :
  PE X (.Call (.Name x p) [e,.Lambda params body scope lpos] [] pos) (tCallC X.N sp cl (b9v te (b9v (tLam T ⟨qual,params,body,scope,lpos⟩ cl) tNil))):=
 pe_fnC c hr hcl (a0a he (a0a (pe_lam C B hcode hq hdef hc0) a0d h3) h1) hk hg hdb h1 h2
theorem law_callT {P:Program}{w:World}{K:PySem.W.Frag}{mg mb:Str->Option Value}{CX:CXT}{fa a:Addr}{fd:FuncData}{sp:Sp}{s₁:Shared}{vs:List Value}{ns:List Int}
  (KX:K.In s₁.heap) (hns:s₁.heap.Ns mainGlobals mg) (hb:s₁.heap.Ns builtinsNs mb) (hbb:∀ x:Str,x ≠ "__name__"->mb x=bootBuiltins x) (hlim:s₁.heap.NoLimit) (hbm:BltM mg s₁.heap) (hg:s₁.gens= #[])
  (hT:PySem.W.TabsAt tabs s₁.heap) (hnt:PySem.W.noTabs K=true)
  (ha:s₁.heap.get? a=some { cls:=.type "list",data:=.seq vs.toArray }) (hi:IntsAre vs ns) (hl:ns.length <= sizeLine) (hr:b4y k callerA)
  (F:∀ base:Heap,K.In base->base.Ns mainGlobals mg->BltM mg base->a2s P w K mg base CX k fa fd [x] sp) (hbind:∀ (s:Shared) (u:Value),BindsTo s fd ⟨[u],[]⟩ [(x,u)])
  (hsp:∀ H:Hp,SqL K H a (ns.map V.int)->(∀ q ∈ tabs,H q.2=some (.tbl #[]))->sp [.ref a] H (fun v _=>v=.bl true) fun _ _ _=>False)
  (hCX:∀ H e s',CX [] H s₁ (fun _ _ _=>False) e s'->False) :
  codeAny (model P w) callerA (.call (.ref fa) ⟨[.ref a],[]⟩) (fun r s'=>r=.ok (.ret (.bool true))/\OldK s₁.heap s'.heap/\s'.os=s₁.os/\AllBare s'.gens) s₁:=by
 have rv:=vals_ints hi;have lenV:=hi.length
 have tat:∀ b,b ∈ tabs.map (·.2)->s₁.heap.get? b=some (PySem.W.tabObj #[]):=fun b hb=>by
  obtain ⟨q,hq,rfl⟩:=List.mem_map.mp hb;exact (hT q hq).2
 have core:∀ H:Hp,(∀ b u,H b=some u->(b ∈ tabs.map (·.2)/\u=.tbl #[])\/∃ o xs,b=a/\u=.frz o (.lst xs)/\K.lookup a=none)->(∀ b,b ∈ tabs.map (·.2)->H b=some (.tbl #[]))->SqL K H a (ns.map V.int)->HOk P w H s₁.heap->
   codeAny (model P w) callerA (.call (.ref fa) ⟨[.ref a],[]⟩) (fun r s'=>r=.ok (.ret (.bool true))/\OldK s₁.heap s'.heap/\s'.os=s₁.os/\AllBare s'.gens) s₁:=by
  intro H hO hTb hS hok;have base_of:∀ {b:Addr} {o:Obj},s₁.heap.get? b=some o->H b=none->(hidT s₁.heap H).get? b=some o:=fun e n=>hidT_get e n
  have noA:∀ {b:Addr} {o:Obj},s₁.heap.get? b=some o->o ≠ PySem.W.tabObj #[]->o.cls ≠ .type "list"->H b=none:=fun {b o} e n1 n2=>by
   cases q:H b with
   | none=>rfl
   | some u=>
    rcases hO b u q with ⟨z,_⟩ | ⟨_,_,z,_⟩
    ·rw [tat b z] at e; exact (n1 (Option.some.inj e).symm).elim
    ·rw [z,ha] at e; cases e; exact (n2 rfl).elim
  have nsK:∀ {b:Addr} {m:Str->Option Value},s₁.heap.Ns b m->(hidT s₁.heap H).Ns b m:=fun {b m} ⟨o,es,ep,e,d,r⟩=>by
   refine ⟨o,es,ep,base_of e ?_,d,r⟩
   cases q:H b with
   | none=>rfl
   | some u=>
    rcases hO b u q with ⟨z,_⟩ | ⟨_,_,z,_⟩
    ·rw [tat b z] at e; cases e; cases d
    ·rw [z,ha] at e; cases e;have d':Data.seq vs.toArray _=Data.dict es ep:=d;cases d'
  have hKb:K.In (hidT s₁.heap H):=fun b o e=>base_of (KX b o e) (by
   cases q:H b with
   | none=>rfl
   | some u=>
    rcases hO b u q with ⟨z,_⟩ | ⟨_,_,z,_,z2⟩
    ·have e1:=KX b o e;rw [tat b z] at e1;cases e1;have h2:=List.all_eq_true.mp hnt (b,_) (PySem.W.mem_of_lookupK e);exact absurd (show false=true from h2) Bool.false_ne_true
    ·rw [z,z2] at e; cases e)
  have hbmb:BltM mg (hidT s₁.heap H):=by
   obtain ⟨bm,ob,b1,b2,b3,b4,b5,b6⟩:=hbm;exact ⟨bm,ob,b1,b2,base_of b3 (noA b3 (fun z=>by rw [z] at b4; cases b4) (by rw [b4]; decide)),b4,b5,b6⟩
  have hM:Mod K mg (hidT s₁.heap H):=⟨hKb,nsK hns,⟨mb,nsK hb,hbb⟩,let ⟨mc,h1,h2⟩:=hlim; ⟨mc,nsK h1,h2⟩⟩;have e0:Env0 P w K mg (hidT s₁.heap H) callerA [] s₁ H:=⟨rfl,hM,fun b o e=>of_hidT e,Nat.le_of_eq (hidT_size _ _),trivial,fun b hb=>absurd (show b ∈ ([]:List Addr) from hb) (by simp),hok,.of_eq hg⟩;refine codeAny_mono ((F _ hKb (nsK hns) hbmb).run callerA [] s₁ H ⟨[.ref a],[]⟩ [.ref a] [.ref a] _ _ hr e0 (hbind s₁ (.ref a)) (.cons rfl .nil) (hsp H hS fun q hq=>hTb q.2 (List.mem_map.mpr ⟨q,hq,rfl⟩))) fun r s' h=>?_
  cases r with
  | error e=>exact (hCX H e s' h).elim
  | ok fl=>
   cases fl with
   | next=>exact False.elim h
   | brk=>exact False.elim h
   | cont=>exact False.elim h
   | ret u=>
    obtain ⟨v,H',os,bare,un,hok',r',q⟩:=h;have q':v=.bl true:=q;subst q';obtain rfl:u=Value.bool true:=r';refine ⟨rfl,⟨fun b o e=>?_,fun b o e=>un.there b o e (by simp)⟩,os,bare⟩
    cases q:H b with
    | none=>exact .inl (un.keep b o e q (by intro z; exact absurd (show b ∈ ([]:List Addr) from z) (by simp)) (by simp))
    | some u=>
     rcases hO b u q with ⟨z,rfl⟩ | ⟨ob,xs,rfl,rfl,_⟩
     ·obtain ⟨more,e2⟩:=un.tbls b _ q;have e3:s'.heap.get? b=some (PySem.W.tabObj (#[] ++ more)):=hok' b _ e2;have e4:=tat b z;rw [e] at e4; cases e4;obtain ⟨p,hp,rfl⟩:=List.mem_map.mp z;exact .inr (.inl ⟨((hT p hp).1.tab (hT p hp).2).isCodeTable,rfl,#[],more,rfl,e3⟩)
     ·have z2:=un.frzs b ob _ q;obtain ⟨e1,_⟩:=hok b _ q;obtain ⟨e2,_⟩:=hok' b _ z2;rw [e] at e1; cases e1;exact .inl e2
 have nat:a ∉ tabs.map (·.2):=fun z=>by rw [tat a z] at ha; cases ha
 cases hk:K.lookup a with
 | some o=>
  have e:=KX a o hk;rw [ha] at e;cases e;refine core (fun b=>if b ∈ tabs.map (·.2) then some (.tbl #[]) else none) (fun b u e=>?_) (fun b hb=>if_pos hb) (.inr ⟨_,vs.toArray,_,hk,rfl,rfl,rfl,by rw [List.size_toArray,lenV]; exact hl,by simpa using rv⟩) (fun b u e=>?_)
  ·by_cases z:b ∈ tabs.map (·.2)
   ·exact .inl ⟨z,(Option.some.inj ((if_pos z).symm.trans e)).symm⟩
   ·have:=(if_neg z).symm.trans e; cases this
  ·by_cases z:b ∈ tabs.map (·.2)
   ·have:=(if_pos z).symm.trans e; cases this;exact tat b z
   ·have:=(if_neg z).symm.trans e; cases this
 | none=>
  refine core (fun b=>if b ∈ tabs.map (·.2) then some (.tbl #[]) else if b=a then some (.frz { cls:=.type "list",data:=.seq vs.toArray } (.lst (ns.map V.int))) else none) (fun b u e=>?_) (fun b hb=>if_pos hb) (.inl (.inr ⟨{ cls:=.type "list",data:=.seq vs.toArray },(if_neg nat).trans (if_pos rfl)⟩)) (fun b u e=>?_)
  ·by_cases z:b ∈ tabs.map (·.2)
   ·exact .inl ⟨z,(Option.some.inj ((if_pos z).symm.trans e)).symm⟩
   ·have e:=(if_neg z).symm.trans e
    by_cases z2:b=a
    ·exact .inr ⟨_,_,z2,(Option.some.inj ((if_pos z2).symm.trans e)).symm,hk⟩
    ·have:=(if_neg z2).symm.trans e; cases this
  ·by_cases z:b ∈ tabs.map (·.2)
   ·have:=(if_pos z).symm.trans e; cases this;exact tat b z
   ·have e:=(if_neg z).symm.trans e
    by_cases z2:b=a
    ·have:=(if_pos z2).symm.trans e;cases this;subst z2;exact ⟨ha,by rw [List.length_map]; exact hl,vs,_,rv,ha⟩
    ·have:=(if_neg z2).symm.trans e; cases this
theorem walk_ofT {l:PySem.W.OpenLaw}{n:Nat}{q:Program}{loose:List Str}{XP:(Str->Option Value)->Heap->Prop}{YP:World->Heap->Prop}{d:DefRec}{K:Params->PySem.W.Frag}{CX:World->CXT}{sp:World->Sp}{x:Str}
  (hn:l.most=some n) (hn2:n <= sizeLine) (hdf:d.params.defaults=[]) (hr:b4y k callerA)
  (hY:∀ (w:World) (h:Heap),YP w h->(K w.params).In h/\PySem.W.TabsAt tabs h) (hnt:∀ w:World,PySem.W.noTabs (K w.params) = true)
  (F:∀ (w:World) (mg:Str->Option Value) (fa:Addr) (h:Heap),(K w.params).In h->h.Ns mainGlobals mg->mg d.name=some (.ref fa)->
   ∃ fd:FuncData,(∀ (s:Shared) (u:Value),BindsTo s fd ⟨[u],[]⟩ [(x,u)])/\
    ∀ base:Heap,(K w.params).In base->base.Ns mainGlobals mg->BltM mg base->a2s l.prog w (K w.params) mg base (CX w) k fa fd [x] (sp w))
  (hsp:∀ (w:World) (H:Hp) (a:Addr) (ns:List Int),ns.length <= n->SqL (K w.params) H a (ns.map V.int)->(∀ q ∈ tabs,H q.2=some (.tbl #[]))->sp w [.ref a] H (fun v _=>v=.bl true) fun _ _ _=>False)
  (hCX:∀ (w:World) (H:Hp) (s:Shared) (e:Value) (s':Shared),CX w [] H s (fun _ _ _=>False) e s'->False) :
  PySem.W.WalkO q loose XP YP l.row.toRowW d [] (fun f vs=>PySem.call f vs):=by
 refine Att.attach_call hn hdf fun w s₀ s₁ mg mb fa o pm cd doc a vs ns G Y ho hd hcd hmg hobj hints hlen hg=>?_;obtain ⟨KX,TX⟩:=hY w _ Y;obtain ⟨fd,hb,hF⟩:=F w mg fa _ KX G.T.g hmg;have hbm:BltM mg s₁.heap:=G.T.bmain;exact law_callT KX G.T.g G.T.b G.T.builtins G.T.nolimit hbm hg TX (hnt w) hobj hints (Nat.le_trans hlen hn2) hr hF hb (fun H hS hT=>hsp w H a ns hlen hS hT) fun H e s'=>hCX w H s₁ e s'
end L2
namespace L2
open PySem PySem.Spec PyProof.Rows
section
variable {X:Cx}
end
end L2
namespace L2
open PySem PySem.Spec PyProof.Rows
variable {f:Addr}{fd:FuncData}{ps:List Str}{k:Nat}{st:Stmt}{qual x:Str}{d:Value}
section
variable {P:Program}{w:World}{K:PySem.W.Frag}{mg:Str->Option Value}{base:Heap}
end
def tCallE (te:TE)(L:Addr->List V->Hp->VK->Prop):TE:=fun σ H Q=>te σ H fun v H1=>∃ f,v=.ref f/\L f [] H1 Q
theorem pe_callE {X:Cx}{j:Nat}{pos:Pos}{fe:Expr}{te:TE}{L:Addr->List V->Hp->VK->Prop}(c:LCal X.prog X.w X.K X.mg X.base k L)(hr:b4y j X.A)(he:PE X fe te)(hk:k <= j:=by decide)
  (ht:eval (.Call fe [] [] pos) X.env=(do callWith pos (<- eval fe X.env) [] (backTo pos (starEach [] X.env)) (backToKw pos (keywordEach [] X.env))):=by rfl):PE X (.Call fe [] [] pos) (tCallE te L):=by
 intro pins s0 σ H0 Q I0 h;rw [ht];refine wpAny_bind (thn (he pins s0 σ H0 _ I0 h) fun u s ⟨v,H,I,r,f,e,q⟩=>?_);subst e;obtain rfl:u=Value.ref f:=r;obtain ⟨o,fd,e2,d2⟩:=c.fn f [] H Q q;refine PySem.W.callWith_F0 (fn_at I.hok e2 d2) (wpAny_call (codeAny_mono (c.run f X.A X.stack s H [] [] Q (hr.mono hk) I.env0 .nil q) fun rr s' hq=>?_))
 cases rr with
 | error e=>exact False.elim hq
 | ok fl=>
  cases fl with
  | ret u=>exact I.after hq
  | next=>exact False.elim hq
  | brk=>exact False.elim hq
  | cont=>exact False.elim hq
structure FunD (K:PySem.W.Frag)(x qual:Str)(st:Stmt)(f:Addr)(fd:FuncData)(d:Value):Prop where
 ex:∃ (oc:Value) (od:Option Addr) (kV doc pm:Value) (an:Option Addr) (cdv ct:Value) (osl:Array (Option Value)) (T:Addr) (o2:Obj) (n2:Nat),
  fd=PySem.W.fnOf x qual (a3n st) (a2z st) (a0f st) (.ref T) kV doc pm an cdv ct/\K.lookup f=some ⟨oc,od,.func fd,osl⟩/\PySem.W.codeIn K cdv qual=true/\K.lookup T=some o2/\o2.data=.seq #[d] n2
 kp:PySem.W.keepIn K (.ref f) = true
section
variable {P:Program}{w:World}{K:PySem.W.Frag}{mg:Str->Option Value}{base:Heap}
theorem FunD.okE {N:List Str}{sp:Sp}(F:FunD K x qual st f fd d)(S:a0r N ps (a0f st))(len:∀ vs H Q E,sp vs H Q E->vs.length=ps.length)
  (hbody:∀ (cdv:Value) (A:Around) (outer:List Env) (s:Shared) (H:Hp) (vs:List V) (Q:VK) (E:XK),b4y k (A.deeper (envOfC qual (a0f st) s.heap.objs.size f cdv))->sp vs H Q E->
   ∃ t,PSs (cxOf (CXE P w) P w K mg base N qual (a0f st) f cdv A outer s H E) (a2z st) t/\t { nx:=fun _ H'=>Q .non H',rt:=Q } (start N vs) H):a2s P w K mg base (CXE P w) (k + 1) f fd ps sp:=by
 obtain ⟨oc,od,kV,doc,pm,an,cdv,ct,osl,T,o2,n2,rfl,lk,hcd,_⟩:=F.ex;exact fn_of lk hcd S len fun A outer s H vs Q E hr hsp=>hbody cdv A outer s H vs Q E hr hsp
theorem FunD.binds {ds:List Value}(F:FunD K x qual st f fd d)
  (h:∀ (T:Addr) (kV doc pm:Value) (an:Option Addr) (cdv ct:Value) (us:List Value),(us ++ ds).length=ps.length->∃ k:Option (Array Value)->Sem (List (Str × Value)),bindArgs (PySem.W.fnOf x qual (a3n st) (a2z st) (a0f st) (.ref T) kV doc pm an cdv ct) ⟨us,[]⟩ = seqItems? (.ref T) >>= k/\k (some #[d]) = pure (ps.zip (us ++ ds))):c1u K fd ps ds:=by
 obtain ⟨oc,od,kV,doc,pm,an,cdv,ct,osl,T,o2,n2,rfl,lk,hcd,l2,e2⟩:=F.ex;intro s us KX hl;obtain ⟨k,e1,e3⟩:=h T kV doc pm an cdv ct us hl;exact .of_defaults rfl (KX _ _ l2) e2 e1 e3
theorem fund_mk {T:Addr}{oc oc2:Value}{od an od2:Option Addr}{osl sl2:Array (Option Value)}{kV doc pm cdv ct:Value}{n2:Nat}(l:K.lookup f=some ⟨oc,od,.func (PySem.W.fnOf x qual (a3n st) (a2z st) (a0f st) (.ref T) kV doc pm an cdv ct),osl⟩)
  (c:PySem.W.codeIn K cdv qual=true) (k:PySem.W.keepIn K (.ref f) = true) (t:K.lookup T=some ⟨oc2,od2,.seq #[d] n2,sl2⟩):FunD K x qual st f (PySem.W.fnOf x qual (a3n st) (a2z st) (a0f st) (.ref T) kV doc pm an cdv ct) d:=⟨⟨oc,od,kV,doc,pm,an,cdv,ct,osl,T,_,n2,rfl,l,c,t,rfl⟩,k⟩
end
section
variable {X:Cx}{CX:CXT}{j k:Nat}{ι:Type}{CD:ι->Addr}{spm:ι->Sp}{ps:List Str}{E:XK}{m:Str}{pos apos:Pos}{e o:Expr}{es:List Expr}{ta:TE}{t:TA}
end
end L2
namespace L2
open PySem PySem.Spec PyProof.Rows
section
variable {X:Cx}
end
end L2
namespace L2
open PySem PySem.Spec PyProof.Rows
section
variable {X:Cx}{j k:Nat}{ι:Type}{CD:ι->Addr}{spm:ι->Sp}{ps:List Str}{m:Str}{pos apos:Pos}{e o:Expr}{es:List Expr}{ta:TE}{t:TA}
end
end L2
namespace L2
open PySem PySem.Spec PyProof.Rows
section
variable {prog:Program}{w:World}{A:Around}{E:Value->Shared->Prop}{s:Shared}{da ia:Addr}{es:Array DictEntry}{ep i:Nat}
end
section
variable {X:Cx}
end
section
variable {K:PySem.W.Frag}{H:Hp}{Q:VK}{a:Addr}{kvs:List (List Key × V)}{σ:St}{tk tv:TE}
end
end L2
namespace Tw
open PySem L2
end Tw
namespace L2
open PySem
section
variable {X:Cx}
end
end L2
namespace Tw
open PySem L2
variable {N a b d:Nat}{r:Row}
theorem a5j (f a b:Nat):pb (f &&& (a ^^^ b)) = (pb (f &&& a) ^^ pb (f &&& b)):=by
 rw [Nat.and_xor_distrib_left,c3e]
theorem pb_pow_and (j b:Nat):pb (2 ^ j &&& b) = b.testBit j:=by
 rw [Nat.and_comm,and_pow,d4s]
theorem bit_of (h:b ≠ 0)(hb:b < 2 ^ N):∃ j,j < N/\b.testBit j=true:=by
 obtain ⟨j,hj⟩:=Nat.exists_testBit_of_ne_zero h;refine ⟨j,?_,hj⟩
 rcases Nat.lt_or_ge j N with h1 | h1
 ·exact h1
 ·rw [Nat.testBit_lt_two_pow (Nat.lt_of_lt_of_le hb (Nat.pow_le_pow_right (by decide) h1))] at hj;cases hj
theorem dual {N:Nat}:∀ (l:List Nat) (b:Nat),(∀ u ∈ l,u < 2 ^ N)->b < 2 ^ N->¬ Spn l b->∃ d,d < 2 ^ N/\(∀ u ∈ l,pb (d &&& u) = false)/\pb (d &&& b) = true
 | [],b,_,hb,h=>by
  obtain ⟨j,h1,h2⟩:=bit_of (N:=N) (fun z=>h ((sp_nil b).2 z)) hb;exact ⟨2 ^ j,Nat.pow_lt_pow_right (by decide) h1,fun _ z=>(nomatch z),by rw [pb_pow_and]; exact h2⟩
 | c :: l,b,hl,hb,h=>by
  rw [a3z] at h;have hc:=hl c List.mem_cons_self;have hl':∀ u ∈ l,u < 2 ^ N:=fun u hu=>hl u (List.mem_cons_of_mem _ hu);obtain ⟨d1,a1,a2,a3⟩:=dual l b hl' hb fun z=>h (.inl z);obtain ⟨d2,b1,b2,b3⟩:=dual l (b ^^^ c) hl' (Nat.xor_lt_two_pow hb hc) fun z=>h (.inr z);rw [a5j] at b3
  have mk:∀ d,d < 2 ^ N->(∀ u ∈ l,pb (d &&& u) = false)->pb (d &&& c) = false->pb (d &&& b) = true->∃ d,d < 2 ^ N/\(∀ u ∈ c :: l,pb (d &&& u) = false)/\pb (d &&& b) = true:=fun d e1 e2 e3 e4=>⟨d,e1,fun u hu=>by
   rcases List.mem_cons.1 hu with rfl | hu
   ·exact e3
   ·exact e2 u hu,e4⟩
  cases hc1:pb (d1 &&& c) with
  | false=>exact mk d1 a1 a2 hc1 a3
  | true=>
   cases hc2:pb (d2 &&& c) with
   | false=>
    rw [hc2] at b3;exact mk d2 b1 b2 hc2 (by simpa using b3)
   | true=>
    rw [hc2] at b3;have hb2:pb (d2 &&& b) = false:=by simpa using b3
    refine mk (d1 ^^^ d2) (Nat.xor_lt_two_pow a1 b1) (fun u hu=>?_) ?_ ?_
    ·rw [Nat.and_comm,a5j,Nat.and_comm u,Nat.and_comm u,a2 u hu,b2 u hu]; rfl
    ·rw [Nat.and_comm,a5j,Nat.and_comm c,Nat.and_comm c,hc1,hc2]; rfl
    ·rw [Nat.and_comm,a5j,Nat.and_comm b,Nat.and_comm b,a3,hb2]; rfl
theorem duals {N:Nat}:∀ (us:List Nat),Ind us->(∀ u ∈ us,u < 2 ^ N)->∃ D:List Nat,D.length=us.length/\(∀ d ∈ D,d < 2 ^ N)/\∀ {i j d u:Nat},D[i]? = some d->us[j]? = some u->pb (d &&& u) = decide (i=j)
 | [],_,_=>⟨[],rfl,fun _ z=>(nomatch z),fun {i j d u} z _=>by simp at z⟩
 | b :: l,hi,hb=>by
  obtain ⟨h1,h2⟩:¬ Spn l b/\Ind l:=hi;have hl:∀ u ∈ l,u < 2 ^ N:=fun u hu=>hb u (List.mem_cons_of_mem _ hu);obtain ⟨D,e1,e2,e3⟩:=duals l h2 hl;obtain ⟨d0,f1,f2,f3⟩:=dual l b hl (hb b List.mem_cons_self) h1;refine ⟨d0 :: D.map (fun d=>if pb (d &&& b) = true then d ^^^ d0 else d),by simp [e1],fun d hd=>?_,fun {i j d u} hd hu=>?_⟩
  ·rcases List.mem_cons.1 hd with rfl | hd
   ·exact f1
   ·obtain ⟨d',hd',rfl⟩:=List.mem_map.1 hd
    split
    ·exact Nat.xor_lt_two_pow (e2 d' hd') f1
    ·exact e2 d' hd'
  ·cases i with
   | zero=>
    obtain rfl:d0=d:=Option.some.inj hd
    cases j with
    | zero=>
     obtain rfl:b=u:=Option.some.inj hu;rw [f3]; rfl
    | succ j=>
     rw [f2 u (List.mem_of_getElem? (show l[j]? = some u from hu))];exact (decide_eq_false (by omega)).symm
   | succ i=>
    have hd':(D.map (fun d=>if pb (d &&& b) = true then d ^^^ d0 else d))[i]? = some d:=hd;rw [List.getElem?_map] at hd'
    cases eD:D[i]? with
    | none=>rw [eD] at hd'; cases hd'
    | some d'=>
     rw [eD] at hd';have hd2:(if pb (d' &&& b) = true then d' ^^^ d0 else d') = d:=Option.some.inj hd'
     cases j with
     | zero=>
      obtain rfl:b=u:=Option.some.inj hu;rw [decide_eq_false (by omega)]
      by_cases c:pb (d' &&& b) = true
      ·rw [if_pos c] at hd2;rw [<- hd2,Nat.and_comm,a5j,Nat.and_comm b,Nat.and_comm b,c,f3]; rfl
      ·rw [if_neg c] at hd2;rw [<- hd2]
       simpa using c
     | succ j=>
      have hu':l[j]? = some u:=hu;have k1:=e3 eD hu'
      have k2:decide (i + 1=j + 1) = decide (i=j):=by
       by_cases c:i=j
       ·rw [c,decide_eq_true rfl,decide_eq_true rfl]
       ·rw [decide_eq_false c,decide_eq_false (by omega)]
      rw [k2,<- k1]
      by_cases c:pb (d' &&& b) = true
      ·rw [if_pos c] at hd2;rw [<- hd2,Nat.and_comm,a5j,Nat.and_comm u,Nat.and_comm u,f2 u (List.mem_of_getElem? hu')];simp
      ·rw [if_neg c] at hd2;rw [<- hd2]
theorem xsel_pb {f:Nat}:∀ {l:List Nat} (m:Nat),(∀ u ∈ l,pb (f &&& u) = false)->pb (f &&& a5g l m) = false
 | [],_,_=>by rw [show a5g [] _=0 from rfl,Nat.and_zero]; exact c4h
 | v :: l,m,h=>by
  show pb (f &&& ((if m.testBit 0=true then v else 0) ^^^ a5g l (m / 2))) = false;rw [a5j,xsel_pb (m / 2) fun u hu=>h u (List.mem_cons_of_mem _ hu)]
  split
  ·rw [h v List.mem_cons_self]; rfl
  ·rw [Nat.and_zero,c4h]; rfl
theorem pop_shl (c:Nat):∀ n,pop (c * 2 ^ n) = pop c
 | 0=>by rw [Nat.pow_zero,Nat.mul_one]
 | n + 1=>by
  rw [b5j,show c * 2 ^ (n + 1) = 2 * (c * 2 ^ n) by rw [Nat.pow_succ]; rw [<- Nat.mul_assoc,Nat.mul_comm]];rw [Nat.mul_mod_right,Nat.mul_div_cancel_left _ (by decide),Nat.zero_add,pop_shl c n]
theorem pb_shift (a b n:Nat):pb (a * 2 ^ n &&& b * 2 ^ n) = pb (a &&& b):=by
 have e:a * 2 ^ n &&& b * 2 ^ n=(a &&& b) * 2 ^ n:=by
  rw [<- Nat.shiftLeft_eq,<- Nat.shiftLeft_eq,<- Nat.shiftLeft_eq];apply Nat.eq_of_testBit_eq;intro i;rw [Nat.testBit_and,Nat.testBit_shiftLeft,Nat.testBit_shiftLeft,Nat.testBit_shiftLeft,Nat.testBit_and];cases decide (n <= i) <;> simp
 rw [e];unfold pb;rw [pop_shl]
theorem d9b {n:Nat}(h:a < 2 ^ n):a &&& b * 2 ^ n=0:=by
 apply Nat.eq_of_testBit_eq;intro i;rw [Nat.testBit_and,<- Nat.shiftLeft_eq,Nat.testBit_shiftLeft,Nat.zero_testBit]
 rcases Nat.lt_or_ge i n with hi | hi
 ·simp [Nat.not_le.2 hi]
 ·rw [Nat.testBit_lt_two_pow (Nat.lt_of_lt_of_le h (Nat.pow_le_pow_right (by decide) hi))];rfl
theorem pb_sn {n c:Nat}(ha:a < 2 ^ n)(hc:c < 2 ^ n):pb ((a ^^^ b * 2 ^ n) &&& (c ^^^ d * 2 ^ n)) = (pb (a &&& c) ^^ pb (b &&& d)):=by
 rw [a5j,Nat.and_comm,a5j,Nat.and_comm _ (d * 2 ^ n),a5j,d9b hc,Nat.and_comm (d * 2 ^ n) a,d9b ha,c4h,pb_shift,Nat.and_comm c a,Nat.and_comm d b];simp
def sw (n d:Nat):Nat:=(d / 2 ^ n) ^^^ (d % 2 ^ n) * 2 ^ n
theorem split_num (n d:Nat):d=(d % 2 ^ n) ^^^ (d / 2 ^ n) * 2 ^ n:=by
 have h:=Nat.mod_add_div d (2 ^ n);have h1:=d9b (b:=d / 2 ^ n) (Nat.mod_lt d (Nat.two_pow_pos n));have h2:=b5h (d % 2 ^ n) (d / 2 ^ n * 2 ^ n);have h3:=c5h (d % 2 ^ n) (d / 2 ^ n * 2 ^ n);rw [Nat.mul_comm] at h;omega
theorem sw_lt {n:Nat}(h:d < 2 ^ (2 * n)):sw n d < 2 ^ (2 * n):=by
 unfold sw
 have h1:d / 2 ^ n < 2 ^ n:=by
  rw [Nat.div_lt_iff_lt_mul (Nat.two_pow_pos n),<- Nat.pow_add];exact Nat.lt_of_lt_of_le h (Nat.pow_le_pow_right (by decide) (by omega))
 have h2:d % 2 ^ n * 2 ^ n < 2 ^ (2 * n):=by
  rw [show 2 * n=n + n by omega,Nat.pow_add];exact Nat.mul_lt_mul_of_pos_right (Nat.mod_lt _ (Nat.two_pow_pos n)) (Nat.two_pow_pos n)
 exact Nat.xor_lt_two_pow (Nat.lt_of_lt_of_le h1 (Nat.pow_le_pow_right (by decide) (by omega))) h2
theorem pb_sw {n:Nat}(ok:r.Ok n)(hd:d < 2 ^ (2 * n)):pb (sn n ⟨0,r.z,r.x⟩ &&& sw n d) = pb (sn n r &&& d):=by
 have h1:d / 2 ^ n < 2 ^ n:=by
  rw [Nat.div_lt_iff_lt_mul (Nat.two_pow_pos n),<- Nat.pow_add];exact Nat.lt_of_lt_of_le hd (Nat.pow_le_pow_right (by decide) (by omega))
 conv=>rhs; rw [split_num n d]
 unfold sn sw;rw [pb_sn ok.z h1,pb_sn ok.x (Nat.mod_lt _ (Nat.two_pow_pos n)),Bool.xor_comm]
theorem symp_pb {n:Nat}{v:Row}(ok:r.Ok n)(kv:v.Ok n):pb (sn n ⟨0,r.z,r.x⟩ &&& sn n v) = a4s r v:=by
 unfold sn;rw [pb_sn ok.z kv.x];unfold a4s;rw [Bool.xor_comm]
theorem ind_room {l:List Nat}(h:Ind l)(hl:∀ u ∈ l,u < 2 ^ N):l.length <= N:=by
 have p:=pigeon (2 ^ l.length) (2 ^ N) (a5g l) (fun i _=>d7g i hl) (fun i j hi hj e=>ind_inj h hi hj e);exact (Nat.pow_le_pow_iff_right (by decide)).1 p
theorem iso {n:Nat}{rs:List Row}(ok:∀ r ∈ rs,r.Ok n)(com:∀ r ∈ rs,∀ s ∈ rs,a4s r s=false)(hi:Ind (rs.map (sn n))):rs.length <= n:=by
 have hu:∀ u ∈ rs.map (sn n),u < 2 ^ (2 * n):=fun u hu=>by
  obtain ⟨r,hr,rfl⟩:=List.mem_map.1 hu;exact sn_lt (ok r hr)
 obtain ⟨D,e1,e2,e3⟩:=duals (N:=2 * n) _ hi hu;rw [List.length_map] at e1
 have key:∀ j,j <= rs.length->Ind (rs.map (sn n) ++ (D.map (sw n)).take j):=by
  intro j
  induction j with
  | zero=>intro _; rw [List.take_zero,List.append_nil]; exact hi
  | succ j ih=>
   intro hj;have hjD:j < D.length:=by omega
   have hg:(D.map (sw n))[j]? = some (sw n D[j]):=by rw [List.getElem?_map,List.getElem?_eq_getElem hjD]; rfl
   have hr:rs[j]? = some rs[j]:=List.getElem?_eq_getElem (by omega);rw [a1g hg,<- List.append_assoc];refine c8k (ih (by omega)) fun z=>?_;obtain ⟨m,_,em⟩:=z;have okj:=ok rs[j] (List.getElem_mem _)
   have hf:∀ u ∈ rs.map (sn n) ++ (D.map (sw n)).take j,pb (sn n ⟨0,rs[j].z,rs[j].x⟩ &&& u) = false:=fun u hu=>by
    rcases List.mem_append.1 hu with hu | hu
    ·obtain ⟨s,hs,rfl⟩:=List.mem_map.1 hu;rw [symp_pb okj (ok s hs)];exact com _ (List.getElem_mem _) s hs
    ·obtain ⟨i,hi'⟩:=List.getElem?_of_mem hu;rw [List.getElem?_take] at hi'
     split at hi'
     ·rename_i hij;rw [List.getElem?_map] at hi'
      cases eD:D[i]? with
      | none=>rw [eD] at hi'; cases hi'
      | some d=>
       rw [eD] at hi';obtain rfl:sw n d=u:=Option.some.inj hi';rw [pb_sw okj (e2 d (List.mem_of_getElem? eD)),Nat.and_comm,e3 eD (by rw [List.getElem?_map,hr]; rfl)];exact decide_eq_false (by omega)
     ·cases hi'
   have h1:=xsel_pb m hf;rw [em,pb_sw okj (e2 _ (List.getElem_mem _)),Nat.and_comm,e3 (List.getElem?_eq_getElem hjD) (by rw [List.getElem?_map,hr]; rfl),decide_eq_true rfl] at h1;cases h1
 have h2:=ind_room (N:=2 * n) (key rs.length (Nat.le_refl _)) fun u hu'=>by
  rcases List.mem_append.1 hu' with h | h
  ·exact hu u h
  ·obtain ⟨d,hd,rfl⟩:=List.mem_map.1 (List.mem_of_mem_take h);exact sw_lt (e2 d hd)
 rw [List.length_append,List.length_map,List.length_take,List.length_map,e1,Nat.min_self] at h2;omega
end Tw
namespace L2
open PySem PySem.Spec PyProof.Rows
section
variable {X:Cx}{k j:Nat}{ps:List Str}{sp:Sp}{x:Str}{C:Addr}{p pos:Pos}{e:Expr}{es:List Expr}{t:TA}
end
section
variable {X:Cx}{st b₀:Stmt}{suite:List Stmt}{W:Addr}{y:Str}{np hpos pos:Pos}{t:XK->TS}{ts:TS}
end
section
variable {X:Cx}{pos:Pos}
end
end L2
namespace Tw
open PySem L2
variable {rs:List Row}{o r:Row}
structure Kept (n:Nat)(rs:List Row):Prop where
 len:rs.length=n
 ok:∀ r ∈ rs,r.Ok n
 com:∀ r ∈ rs,∀ s ∈ rs,a4s r s=false
 ind:Ind (rs.map (sn n))
theorem xsel_map {f:Nat->Nat}(h0:f 0=0)(hx:∀ a b,f (a ^^^ b) = f a ^^^ f b):∀ (l:List Nat) (m:Nat),a5g (l.map f) m=f (a5g l m)
 | [],m=>by show (0:Nat) = f 0; exact h0.symm
 | v :: l,m=>by
  show (if m.testBit 0=true then f v else 0) ^^^ a5g (l.map f) (m / 2) = f ((if m.testBit 0=true then v else 0) ^^^ a5g l (m / 2));rw [hx,xsel_map h0 hx l]
  split
  ·rfl
  ·rw [h0]
theorem ind_map {N:Nat}{f:Nat->Nat}(h0:f 0=0)(hx:∀ a b,f (a ^^^ b) = f a ^^^ f b)(hi:∀ a b,a < 2 ^ N->b < 2 ^ N->f a=f b->a=b):∀ {l:List Nat},(∀ u ∈ l,u < 2 ^ N)->Ind l->Ind (l.map f)
 | [],_,_=>trivial
 | b :: l,hl,⟨h1,h2⟩=>by
  refine ⟨fun ⟨m,hm,e⟩=>h1 ⟨m,by rw [List.length_map] at hm; exact hm,?_⟩,ind_map h0 hx hi (fun u hu=>hl u (List.mem_cons_of_mem _ hu)) h2⟩;rw [xsel_map h0 hx] at e;exact hi _ _ (d7g m fun u hu=>hl u (List.mem_cons_of_mem _ hu)) (hl b List.mem_cons_self) e
def rn (n u:Nat):Row:=⟨0,u % 2 ^ n,u / 2 ^ n⟩
theorem rn_xor (n a b:Nat):Add3 (rn n a) (rn n b) (rn n (a ^^^ b)):=⟨Nat.xor_mod_two_pow,by
 show (a ^^^ b) / 2 ^ n=a / 2 ^ n ^^^ b / 2 ^ n
 rw [<- Nat.shiftRight_eq_div_pow,<- Nat.shiftRight_eq_div_pow,<- Nat.shiftRight_eq_div_pow,Nat.shiftRight_xor_distrib]⟩
theorem sn_rn (n u:Nat):sn n (rn n u) = u:=(split_num n u).symm
theorem rn_sn {n:Nat}(ok:r.Ok n):(rn n (sn n r)).x=r.x/\(rn n (sn n r)).z=r.z:=by
 have h:(rn n (sn n r)).x < 2 ^ n:=Nat.mod_lt _ (Nat.two_pow_pos n);exact sn_inj h ok.x (sn_rn n (sn n r))
theorem rn_ok {n u:Nat}(h:u < 2 ^ (2 * n)):(rn n u).Ok n:=⟨Nat.zero_le _,Nat.mod_lt _ (Nat.two_pow_pos n),by
 show u / 2 ^ n < 2 ^ n;rw [Nat.div_lt_iff_lt_mul (Nat.two_pow_pos n),<- Nat.pow_add]
 rw [show n + n=2 * n by omega]; exact h⟩
theorem sn_add3 {n:Nat}{s t:Row}(h:Add3 r s t):sn n t=sn n r ^^^ sn n s:=by
 unfold sn;rw [h.1,h.2,mul_xor,x4]
def aN (d:Dd)(n u:Nat):Nat:=sn n (d4x [d] (rn n u))
theorem Kept.act {n:Nat}{rs:List Row}(h:Kept n rs){d:Dd}(ok:d.Ok n):Kept n (rs.map (act d)):=by
 have hd:∀ e ∈ [d],e.Ok n:=fun e he=>by rw [List.mem_singleton.1 he]; exact ok
 refine ⟨by rw [List.length_map]; exact h.len,fun r hr=>?_,fun r hr s hs=>?_,?_⟩
 ·obtain ⟨u,hu,rfl⟩:=List.mem_map.1 hr;exact act_ok (h.ok u hu) ok
 ·obtain ⟨u,hu,rfl⟩:=List.mem_map.1 hr;obtain ⟨t,ht,rfl⟩:=List.mem_map.1 hs;rw [act_symp ok];exact h.com u hu t ht
 ·have e:(rs.map (Tw.act d)).map (sn n) = (rs.map (sn n)).map (aN d n):=by
   rw [List.map_map,List.map_map];refine List.map_congr_left fun r hr=>?_;show sn n (d4x [d] r) = sn n (d4x [d] (rn n (sn n r)));have a:=acts_let (ds:=[d]) (rn_sn (h.ok r hr)).1 (rn_sn (h.ok r hr)).2;generalize rn n (sn n r) = t at a ⊢;unfold sn;rw [a.1,a.2]
  rw [e];have hx:∀ a b,aN d n (a ^^^ b) = aN d n a ^^^ aN d n b:=fun a b=>sn_add3 (c9a (ds:=[d]) (rn_xor n a b))
  have h0:aN d n 0=0:=by
   have:=hx 0 0;rw [Nat.xor_self,Nat.xor_self] at this;exact this
  refine ind_map (N:=2 * n) h0 hx (fun a b ha hb e=>?_) (fun u hu=>?_) h.ind
  ·have ka:=acts_ok (ds:=[d]) (rn_ok ha) hd;have kb:=acts_ok (ds:=[d]) (rn_ok hb) hd;obtain ⟨e1,e2⟩:=sn_inj ka.x kb.x e;have g:=acts_let (ds:=undo [d]) e1 e2;rw [d1n hd,d1n hd] at g;rw [<- sn_rn n a,<- sn_rn n b];unfold sn;rw [g.1,g.2]
  ·obtain ⟨r,hr,rfl⟩:=List.mem_map.1 hu;exact sn_lt (h.ok r hr)
theorem lsel_spn {n:Nat}(ok:∀ r ∈ rs,r.Ok n)(oo:o.Ok n)(h:∀ m,¬ Lsel rs m o):¬ Spn (rs.map (sn n)) (sn n o):=
 fun ⟨m,_,e⟩=>h m ((lsel_sn (w:=n) (fun s hs=>(ok s hs).x) oo.x m).1 e)
theorem Kept.full {n:Nat}(h:Kept n rs)(oo:o.Ok n)(hn:¬ Spn (rs.map (sn n)) (sn n o)):∃ r ∈ rs,a4s r o=true:=by
 apply Classical.byContradiction;intro hc
 have hb:∀ r ∈ rs,a4s r o=false:=fun r hr=>by
  cases e:a4s r o with
  | false=>rfl
  | true=>exact (hc ⟨r,hr,e⟩).elim
 have hs:a4s o o=false:=by
  unfold a4s;rw [Nat.and_comm o.z,Bool.xor_self]
 have:=iso (rs:=rs ++ [o]) (n:=n) (fun r hr=>?_) (fun r hr s hs'=>?_) (by rw [List.map_append]; exact c8k h.ind hn)
 ·rw [List.length_append,h.len] at this;exact absurd this (by show ¬ (n + 1 <= n); omega)
 ·rcases List.mem_append.1 hr with hr | hr
  ·exact h.ok r hr
  ·rw [List.mem_singleton.1 hr]; exact oo
 ·rcases List.mem_append.1 hr with hr | hr <;> rcases List.mem_append.1 hs' with hs' | hs'
  ·exact h.com r hr s hs'
  ·rw [List.mem_singleton.1 hs']; exact hb r hr
  ·rw [List.mem_singleton.1 hr,a9w]; exact hb s hs'
  ·rw [List.mem_singleton.1 hr,List.mem_singleton.1 hs']; exact hs
theorem mend {c:Nat}:∀ (cs st:List Nat),Ind (c :: (cs ++ st))->Ind (c :: (cs.map (c ^^^ ·) ++ st))/\∀ v,Spn (c :: (cs.map (c ^^^ ·) ++ st)) v->Spn (c :: (cs ++ st)) v
 | [],st,h=>⟨h,fun _ z=>z⟩
 | d :: cs,st,h=>by
  have p1:(c :: (d :: cs ++ st)).Perm (d :: c :: (cs ++ st)):=.swap _ _ _;have h1:=ind_sum (b9g p1 h)
  have p2:((d ^^^ c) :: c :: (cs ++ st)).Perm (c :: (cs ++ ((c ^^^ d) :: st))):=by
   rw [Nat.xor_comm d c];exact (List.Perm.swap _ _ _).trans (.cons _ (List.perm_middle.symm))
  obtain ⟨a,b⟩:=mend cs ((c ^^^ d) :: st) (b9g p2 h1);have p3:(c :: (cs.map (c ^^^ ·) ++ ((c ^^^ d) :: st))).Perm (c :: ((d :: cs).map (c ^^^ ·) ++ st)):=.cons _ List.perm_middle
  refine ⟨b9g p3 a,fun v z=>?_⟩;have z1:=b v ((c4u p3 v).2 z);have z2:=(c4u p2 v).2 z1;exact (c4u p1 v).2 ((sp_sum _ _ _ _).1 z2)
theorem Kept.settle {n:Nat}(h:Kept n rs)(oo:o.Ok n)(hn:¬ Spn (rs.map (sn n)) (sn n o)){c:Row}{cs:List Row}
  (hc:rs.filter (fun r=>a4s r o) = c :: cs) {v:Nat} (hv:v <= 1):Kept n (rs.filter (fun r=>!a4s r o) ++ cs.map (tm c) ++ [⟨v,o.x,o.z⟩]):=by
 have P:(rs.filter (fun r=>a4s r o) ++ rs.filter (fun r=>!a4s r o)).Perm rs:=List.filter_append_perm _ _;rw [hc] at P;generalize hst:rs.filter (fun r=>!a4s r o) = st at P ⊢
 have mst:∀ r ∈ st,r ∈ rs/\a4s r o=false:=fun r hr=>by
  rw [<- hst,List.mem_filter] at hr;exact ⟨hr.1,by simpa using hr.2⟩
 have mcs:∀ r ∈ c :: cs,r ∈ rs/\a4s r o=true:=fun r hr=>by
  rw [<- hc,List.mem_filter] at hr;exact hr
 have cc:=mcs c List.mem_cons_self;have mc:∀ r ∈ cs,r ∈ rs/\a4s r o=true:=fun r hr=>mcs r (List.mem_cons_of_mem _ hr);have hlen:=P.length_eq;have I0:=b9g (P.symm.map (sn n)) h.ind;have e0:(c :: cs ++ st).map (sn n) = sn n c :: (cs.map (sn n) ++ st.map (sn n)):=by simp
 rw [e0] at I0;obtain ⟨I1,I2⟩:=mend _ _ I0
 have e1:(cs.map (sn n)).map (sn n c ^^^ ·) = (cs.map (tm c)).map (sn n):=by
  rw [List.map_map,List.map_map];exact List.map_congr_left fun r _=>(sn_add3 (d0k c r)).symm
 rw [e1] at I1 I2
 have sb:∀ r s,r ∈ rs->s ∈ rs->a4s (tm c r) s=false:=fun r s hr hs=>by
  rw [b8x (d0k c r),h.com _ cc.1 s hs,h.com r hr s hs]; rfl
 have so:∀ r ∈ cs,a4s (tm c r) o=false:=fun r hr=>by
  rw [b8x (d0k c r),cc.2,(mc r hr).2]; rfl
 have oself:a4s o o=false:=by
  unfold a4s;rw [Nat.and_comm o.z,Bool.xor_self]
 have om:∀ r:Row,a4s r (⟨v,o.x,o.z⟩:Row) = a4s r o:=fun _=>rfl;have mo:∀ r:Row,a4s (⟨v,o.x,o.z⟩:Row) r=a4s o r:=fun _=>rfl
 have allb:∀ r ∈ st ++ cs.map (tm c),a4s r o=false/\∀ s ∈ rs,a4s r s=false:=fun r hr=>by
  rcases List.mem_append.1 hr with hr | hr
  ·exact ⟨(mst r hr).2,fun s hs=>h.com r (mst r hr).1 s hs⟩
  ·obtain ⟨u,hu,rfl⟩:=List.mem_map.1 hr;exact ⟨so u hu,fun s hs=>sb u s (mc u hu).1 hs⟩
 have com1:∀ r ∈ st ++ cs.map (tm c),∀ s ∈ st ++ cs.map (tm c),a4s r s=false:=fun r hr s hs=>by
  rcases List.mem_append.1 hs with hs | hs
  ·exact (allb r hr).2 s (mst s hs).1
  ·obtain ⟨u,hu,rfl⟩:=List.mem_map.1 hs;rw [a9w,b8x (d0k c u),a9w c,a9w u,(allb r hr).2 c cc.1,(allb r hr).2 u (mc u hu).1]; rfl
 refine ⟨?_,fun r hr=>?_,fun r hr s hs=>?_,?_⟩
 ·rw [<- h.len,<- hlen];simp only [List.length_append,List.length_map,List.length_cons,List.length_nil];omega
 ·rcases List.mem_append.1 hr with hr | hr
  ·rcases List.mem_append.1 hr with hr | hr
   ·exact h.ok r (mst r hr).1
   ·obtain ⟨u,hu,rfl⟩:=List.mem_map.1 hr;exact ⟨tm_le _ _,Nat.xor_lt_two_pow (h.ok c cc.1).x (h.ok u (mc u hu).1).x,Nat.xor_lt_two_pow (h.ok c cc.1).z (h.ok u (mc u hu).1).z⟩
  ·rw [List.mem_singleton.1 hr];exact ⟨hv,oo.x,oo.z⟩
 ·rcases List.mem_append.1 hr with hr | hr <;> rcases List.mem_append.1 hs with hs | hs
  ·exact com1 r hr s hs
  ·rw [List.mem_singleton.1 hs,om]; exact (allb r hr).1
  ·rw [List.mem_singleton.1 hr,mo,a9w]; exact (allb s hs).1
  ·rw [List.mem_singleton.1 hr,List.mem_singleton.1 hs,mo,om]; exact oself
 ·rw [List.map_append]
  have p4:((cs.map (tm c)).map (sn n) ++ st.map (sn n)).Perm ((st ++ cs.map (tm c)).map (sn n)):=by
   rw [List.map_append];exact List.perm_append_comm
  refine c8k (b9g p4 I1.2) fun z=>hn ?_;have z1:Spn (sn n c :: ((cs.map (tm c)).map (sn n) ++ st.map (sn n))) (sn n o):=(a3z _ _ _).2 (.inl ((c4u p4 _).2 z));have z2:=I2 _ z1;rw [<- e0] at z2;exact (c4u (P.map (sn n)) _).1 z2
end Tw
namespace L2
open PySem
structure CalN (P:Program)(w:World)(K:PySem.W.Frag)(mg:Str->Option Value)(base:Heap)(CX:CXT)(k:Nat)(x:Str)(ps:List Str)(sp:Sp):Prop where
 ex:∃ f fd,a2s P w K mg base CX k f fd ps sp/\c1u K fd ps [.none]/\PySem.W.keepIn K (.ref f) = true/\mg x=some (.ref f)
section
variable {X:Cx}{CX:CXT}{j k:Nat}{ps:List Str}{sp:Sp}{E:XK}{x:Str}{p pos:Pos}{e:Expr}{es:List Expr}{t:TA}
theorem pe_fnN (c:CalN X.prog X.w X.K X.mg X.base CX k x ps sp)(hr:b4y j X.A)(hx:b4r CX X E)(ha:PA X (e :: es) t)(hk:k <= j:=by decide)(hg:Gl X x:=by rfl)(hdb:(x == ("__debug__":Str)) = false:=by decide)
  (he:starEach (e :: es) X.env=(false,eval e X.env) :: starEach es X.env:=by rfl) (hpl:(backTo pos (starEach es X.env)).any (·.1) = false:=by rfl) :
  PE X (.Call (.Name x p) (e :: es) [] pos) (tCall sp [.non] E t):=by
 obtain ⟨f,fd,F,b,kp,m⟩:=c.ex;exact pe_call F (hr.mono hk) hg m kp b (.cons rfl .nil) hx ha hdb he hpl
theorem op_eith {f:Value->Value->Sem Value}{r1 r2:R2}(a:OpR X f r1)(b:OpR X f r2):OpR X f (fun x y H Q=>r1 x y H Q\/r2 x y H Q):=
 fun pins s σ H x y v u Q I rx ry h=>h.elim (a pins s σ H x y v u Q I rx ry) (b pins s σ H x y v u Q I rx ry)
end
end L2
set_option maxHeartbeats 30000000
namespace L2
open PySem
theorem b9j:bootBuiltins "all" = some (.builtin "all"):=by decide +kernel
end L2
namespace Tw
open PySem L2
variable {C T T1 T2 T3 T4 a0g a0h a0j a0m a1j a1s a1t a1x b c dx f p:Addr}{A B G H H':Hp}{l:Lam}{as:List Addr}{rs:List Row}{ss:List Sm}{us:List Value}{L N i j m:Nat}{e:Nat × Int × Int}{K:PySem.W.Frag}{r:Row}{w:Str}{Q:VK}{ws:Wh}
local macro_rules | `(tactic| fail "la")=>`(tactic| first | (with_reducible assumption) | exact a0c | (with_reducible refine' upd_get ?s1 ?s2; (case s1=>with_reducible assumption); (case s2=>fail "la")))
local macro_rules | `(tactic| fail "sq")=>`(tactic| first | (with_reducible assumption) | (with_reducible apply SqT.of a0c) | (with_reducible apply SqL.of a0c) | (with_reducible apply SqT.of; with_reducible assumption) | (with_reducible apply SqL.of; with_reducible assumption) | (with_reducible apply SqT.upd <;> first | (with_reducible assumption) | fail "sq") | (with_reducible apply SqL.upd <;> first | (with_reducible assumption) | fail "sq") | (with_reducible refine' a2c.tup ?s1 ?s2; (case s1=>with_reducible assumption); (case s2=>fail "sq")) | (with_reducible refine' a2c.seq ?s1 ?s2; (case s1=>with_reducible assumption); (case s2=>fail "sq")))
local macro_rules | `(tactic| fail "st")=>`(tactic| dsimp only [cxOf_K])
local macro_rules | `(tactic| fail "sd")=>`(tactic| first | omega | exact pow_pos2 _ | exact pow_le100 (by omega) | exact cdivw_pow (by omega) | exact cpow_n (by omega) | exact ⟨by decide,by decide⟩ | exact .inl ⟨by decide,by decide⟩ | decide)
local macro_rules | `(tactic| fail "tv")=>`(tactic| ((with_reducible refine' st_var ?e1 ?h1); (case e1=>exact rfl)))
local macro_rules | `(tactic| fail "tx")=>`(tactic| ((with_reducible refine' st_ixT ?s1 ?e1 ?h1); (case s1=>fail "sq"); (case e1=>exact rfl)))
local macro_rules | `(tactic| fail "tl")=>`(tactic| ((with_reducible refine' b6f ?s1 ?e1 ?h1); (case s1=>fail "sq"); (case e1=>first | assumption | exact rfl)))
local macro_rules | `(tactic| fail "tg")=>`(tactic| ((with_reducible refine' st_gtup ?s1 ?e1 ?h1); (case s1=>fail "sq"); (case e1=>exact rfl)))
local macro_rules | `(tactic| fail "ti")=>`(tactic| ((with_reducible refine st_i ?c1 ?h1); (case c1=>fail "sd")))
local macro_rules | `(tactic| fail "ts")=>`(tactic| ((with_reducible refine st_shl1 ?c1 ?h1); (case c1=>fail "sd")))
local macro_rules | `(tactic| fail "tm")=>`(tactic| ((with_reducible refine st_modN ?c1 ?h1); (case c1=>fail "sd"); intro _ _ _))
local macro_rules | `(tactic| fail "td")=>`(tactic| ((with_reducible refine st_divN ?c1 ?c2 ?h1); (case c1=>fail "sd"); (case c2=>fail "sd")))
local macro_rules | `(tactic| fail "tz")=>`(tactic| ((with_reducible refine st_size ?c1 ?h1); (case c1=>exact rfl)))
local macro_rules | `(tactic| fail "sl")=>`(tactic| ((with_reducible refine' st_slL ?s1 ?h1); (case s1=>fail "sq")))
local macro_rules | `(tactic| fail "n2")=>`(tactic| ((with_reducible first | refine' rNeD_2 ?s1 ?s2 ?h1 | refine' rEqD_2 ?s1 ?s2 ?h1 | refine' rNeD_3 ?s1 ?s2 ?h1 | refine' rEqD_3 ?s1 ?s2 ?h1); (case s1=>fail "sq"); (case s2=>fail "sq")))
local macro_rules | `(tactic| fail "sm")=>`(tactic| first | (with_reducible assumption) | exact a2c.refl _ | (with_reducible refine' a2c.updR ?s1 ?s2; (case s2=>with_reducible assumption); (case s1=>fail "sm")) | (with_reducible refine' a2c.trans ?s1 ?s2; (case s2=>with_reducible assumption); (case s1=>fail "sm")))
local macro_rules | `(tactic| fail "is")=>`(tactic| ((with_reducible refine' a6n ?s1 ?s2 ?h1); (case s1=>first | exact a8a.bl _ | exact a8a.int _ | exact a8a.str _ | exact a8a.non | exact a8a.tup a0c | exact a8a.lst a0c | (with_reducible refine' a8a.tup ?e9; (case e9=>fail "la")) | (with_reducible refine' a8a.lst ?e9; (case e9=>fail "la")) | exact a8a.dK a0c); (case s2=>first | exact b6q | exact b4s | exact kit_NoneType_str | exact a7y | exact kit_NoneType_list | exact kit_NoneType_dict | exact c6c | exact c2w | exact kit_bool_str | exact kit_bool_tuple | exact kit_bool_list | exact kit_bool_dict | exact d0c | exact c5n | exact kit_int_str | exact kit_int_tuple | exact kit_int_list | exact kit_int_dict | exact d3a | exact c5y | exact kit_str_str | exact kit_str_tuple | exact kit_str_list | exact kit_str_dict | exact kit_list_int | exact kit_list_bool | exact kit_list_str | exact b3z | exact c2j | exact kit_list_dict | exact kit_tuple_int | exact kit_tuple_bool | exact kit_tuple_str | exact a1u | exact kit_tuple_list | exact kit_tuple_dict | exact kit_dict_int | exact kit_dict_bool | exact kit_dict_str | exact kit_dict_tuple | exact kit_dict_list | exact kit_dict_dict)))
local macro_rules | `(tactic| fail "h0")=>`(tactic| first | with_reducible refine st_andS ?_ | with_reducible refine st_andB ?_ | with_reducible refine st_and1 ?_ | with_reducible refine st_chain ?_ | with_reducible refine st_dnew ?_ | with_reducible refine st_yes ?_ | ((with_reducible refine' st_lstT ?s1 ?h1); (case s1=>fail "sq")) | with_reducible refine st_raise ?_ | with_reducible refine st_try ?_ | ((with_reducible refine st_shlB ?c1 ?h1); (case c1=>omega)) | ((with_reducible refine' st_in01 ?s1 ?c1 ?h1); (case s1=>fail "sq"); (case c1=>omega)))
local macro_rules | `(tactic| fail "h1")=>`(tactic| with_reducible first | refine st_seq ?_ | refine st_asg ?_ | refine st_gname ?_ | refine st_op ?_ | refine st_c ?_ | refine st_if ?_ | refine st_ret ?_ | refine st_test ?_ | refine st_bl ?_ | refine st_cons ?_ | refine st_nil ?_ | refine st_call ?_ | refine st_tup ?_ | refine st_and ?_ | refine st_or ?_ | refine st_not ?_ | refine st_andN ?_ | refine st_orN ?_ | refine st_xorN ?_ | refine st_bit ?_ | refine d6y ?_ | refine st_shrN ?_ | refine st_eqi ?_ | refine st_nei ?_ | refine st_eqb ?_ | refine st_neb ?_ | refine st_eqs ?_ | refine st_nes ?_ | refine st_cb ?_ | refine st_lst ?_ | refine st_next ?_ | refine st_retN ?_ | refine st_drop ?_ | refine st_gcons ?_ | refine st_gnil ?_ | refine st_un ?_ | refine st_u ?_ | refine st_tB ?_ | refine st_andV ?_ | refine st_orV ?_ | refine st_notV ?_ | refine st_ifE ?_ | refine st_part ?_ | refine st_int ?_ | refine st_nopart ?_ | refine st_sl ?_)
local macro_rules | `(tactic| fail "h2")=>`(tactic| first | with_reducible refine st_bm0 ?_ | with_reducible refine st_bm ?_ | with_reducible refine st_tyI ?_ | with_reducible refine st_tyS ?_ | with_reducible refine st_bitlen ?_ | ((with_reducible refine' st_tyL ?s1 ?h1); (case s1=>fail "sq")) | ((with_reducible refine' st_lenL ?s1 ?h1); (case s1=>fail "sq")) | ((with_reducible refine' st_lenT ?s1 ?h1); (case s1=>fail "sq")) | ((with_reducible refine' st_cat ?s1 ?s2 ?s3 ?h1); (case s1=>fail "la"); (case s2=>fail "la"); (case s3=>first | omega | (simp only [List.length_append,List.length_map,List.length_cons,List.length_nil]; omega))) | ((with_reducible refine' st_append ?s1 ?s2 ?h1); (case s1=>fail "la"); (case s2=>first | omega | (simp only [List.length_append,List.length_map,List.length_cons,List.length_nil]; omega))))
local macro_rules | `(tactic| fail "go")=>`(tactic| repeat (first | fail "tv" | fail "h0" | fail "h1" | fail "tx" | fail "tl" | fail "ts" | fail "tm" | fail "td" | fail "ti" | fail "tz" | fail "tg" | fail "sl" | fail "n2" | fail "is" | fail "h2" | with_reducible refine iteT ?_ | with_reducible refine iteF ?_ | with_reducible refine iteNT ?_ | with_reducible refine iteNF ?_ | with_reducible refine (fun (p:Addr) (hp:_=none)=>?_:∀ p:Addr,_=none->_) | dsimp only [Bool.not_true,Bool.not_false]))
local macro_rules | `(tactic| fail "h2")=>`(tactic| with_reducible first | refine st_fld ?_ | refine st_put ?_ | refine st_make ?_ | refine st_md ?_ | refine st_intB ?_)
local macro_rules | `(tactic| fail "tx")=>`(tactic| ((with_reducible refine' st_ixT ?s1 ?e1 ?h1); (case s1=>fail "sq"); (case e1=>first | exact at0 _ _ | exact at1 _ _ _)))
local macro_rules | `(tactic| fail "h0")=>`(tactic| with_reducible first | refine st_xorBB ?_ | refine st_xorNB ?_ | refine st_sub1B ?_)
local macro_rules | `(tactic| fail "h0")=>`(tactic| with_reducible first | refine st_dget2 ?_ | refine st_dput ?_)
local macro_rules | `(tactic| fail "kw1")=>`(tactic| first | ((with_reducible refine' ite_t ?e9 ?h9); (case e9=>decide +kernel)) | ((with_reducible refine' ite_f ?e9 ?h9); (case e9=>decide +kernel)))
local macro_rules | `(tactic| fail "kw")=>`(tactic| (fail "go"; repeat (fail "kw1"; fail "go")))
theorem b3u {A:Around}{k:Nat}(hr:b4y k A):A.units + 64 < cLine:=hr.units
inductive SK where
 | span
inductive MK where
 | ex | sg
instance:DecidableEq MK:=fun a b=>match a,b with
 | .ex,.ex=>isTrue rfl
 | .sg,.sg=>isTrue rfl
 | .ex,.sg=>isFalse (fun z=>nomatch z)
 | .sg,.ex=>isFalse (fun z=>nomatch z)
local macro_rules | `(tactic| fail "sc")=>`(tactic| exact ⟨rfl,rfl,rfl,by decide +kernel,rfl,by decide +kernel,by decide +kernel⟩)
def top (i:Nat):Stmt:=PySem.Challenge.pw_twinwires_k39_works_looked_through_ahead.main.body.getD i (.Pass ⟨0,0,0,0⟩)
abbrev a8t:Stmt:=top 3
theorem c3h:a0r ["thing"] ["thing"] (a0f a8t):=by fail "sc"
abbrev a7w:Stmt:=a2a (top 52) 0
theorem c0q:a0r ["self","n","most"] ["self","n","most"] (a0f a7w):=by fail "sc"
abbrev a9z:Stmt:=a2a (top 64) 0
theorem c5m:a0r ["self","n"] ["self","n"] (a0f a9z):=by fail "sc"
abbrev a7a:Stmt:=a2a (top 76) 0
theorem b4q:a0r ["self","n"] ["self","n"] (a0f a7a):=by fail "sc"
abbrev a8q:Stmt:=top 20
theorem a5t:a0r ["whole","told","b","pair"] ["whole"] (a0f a8q):=by fail "sc"
abbrev d6b:Stmt:=top 6
theorem sc_bit_at:a0r ["number","k"] ["number","k"] (a0f d6b):=by fail "sc"
abbrev c0y:Stmt:=top 45
theorem c6h:a0r ["number","j","k","unlike"] ["number","j","k"] (a0f c0y):=by fail "sc"
abbrev s_moved:Stmt:=top 46
theorem c8h:a0r ["whole","place_of","told","b","pair"] ["whole","place_of"] (a0f s_moved):=by fail "sc"
abbrev a3t:Stmt:=a2a (top 39) 2
theorem b6h:a0r ["self","whole","bit"] ["self","whole"] (a0f a3t):=by fail "sc"
abbrev d0w:Stmt:=top 18
theorem d4v:a0r ["pair","often","turns"] ["pair","often"] (a0f d0w):=by fail "sc"
abbrev a7c:Stmt:=top 47
theorem a4t:a0r ["whole","k","often","told","b","pair"] ["whole","k","often"] (a0f a7c):=by fail "sc"
abbrev a8d:Stmt:=a2a (top 40) 2
theorem c0t:a0r ["self","whole"] ["self","whole"] (a0f a8d):=by fail "sc"
abbrev b2f:Stmt:=a2a (top 41) 2
theorem c6v:a0r ["self","whole"] ["self","whole"] (a0f b2f):=by fail "sc"
abbrev d7n:Stmt:=top 19
theorem sc_add_at:a0r ["whole","b","pair","before"] ["whole","b","pair"] (a0f d7n):=by fail "sc"
abbrev b1m:Stmt:=a2a (top 42) 2
theorem a4e:a0r ["self","whole","bit","told","b","pair","down"] ["self","whole"] (a0f b1m):=by fail "sc"
abbrev a3g:Stmt:=a2a (top 43) 2
theorem a8y:a0r ["self","whole","j","k"] ["self","whole"] (a0f a3g):=by fail "sc"
abbrev a3v:Stmt:=a2a (top 44) 2
theorem b0a:a0r ["self","whole","j","k"] ["self","whole"] (a0f a3v):=by fail "sc"
abbrev b3t:Stmt:=a2a (top 64) 2
theorem c9g:a0r ["self","deed"] ["self","deed"] (a0f b3t):=by fail "sc"
abbrev b5p:Stmt:=a2a (top 39) 1
theorem d3z:a0r ["self","row"] ["self","row"] (a0f b5p):=by fail "sc"
abbrev b0c:Stmt:=a2a (top 40) 1
theorem a6m:a0r ["self","row","k","x","z"] ["self","row"] (a0f b0c):=by fail "sc"
abbrev b5w:Stmt:=a2a (top 41) 1
theorem a9g:a0r ["self","row","k","x","z"] ["self","row"] (a0f b5w):=by fail "sc"
abbrev b5z:Stmt:=a2a (top 42) 1
theorem a6y:a0r ["self","row","k","x","z","unlike"] ["self","row"] (a0f b5z):=by fail "sc"
abbrev b4c:Stmt:=a2a (top 43) 1
theorem a4y:a0r ["self","row","j","k","x","z","alike"] ["self","row"] (a0f b4c):=by fail "sc"
abbrev b5m:Stmt:=a2a (top 44) 1
theorem b3q:a0r ["self","row","j","k"] ["self","row"] (a0f b5m):=by fail "sc"
abbrev a9h:Stmt:=a2a (top 76) 2
theorem b7r:a0r ["self","deed"] ["self","deed"] (a0f a9h):=by fail "sc"
abbrev b8n:Stmt:=a2a (top 38) 2
theorem d9m:a0r ["self"] ["self"] (a0f b8n):=by fail "sc"
abbrev b1s:Stmt:=a2a (top 38) 0
theorem c7k:a0r ["self","word","undoer","at"] ["self","word","undoer","at"] (a0f b1s):=by fail "sc"
abbrev b2c:Stmt:=a2a (top 44) 0
theorem c7q:a0r ["self","j","k"] ["self","j","k"] (a0f b2c):=by fail "sc"
abbrev b2h:Stmt:=a2a (top 39) 0
theorem c7x:a0r ["self","k"] ["self","k"] (a0f b2h):=by fail "sc"
abbrev a8b:Stmt:=a2a (top 40) 0
theorem c1j:a0r ["self","k"] ["self","k"] (a0f a8b):=by fail "sc"
abbrev b1q:Stmt:=a2a (top 41) 0
theorem c7r:a0r ["self","k"] ["self","k"] (a0f b1q):=by fail "sc"
abbrev b2q:Stmt:=a2a (top 42) 0
theorem c7b:a0r ["self","k"] ["self","k"] (a0f b2q):=by fail "sc"
abbrev b0j:Stmt:=a2a (top 43) 0
theorem c4t:a0r ["self","j","k"] ["self","j","k"] (a0f b0j):=by fail "sc"
abbrev b1a:Stmt:=top 50
theorem b3x:a0r ["words","at"] ["words"] (a0f b1a):=by fail "sc"
abbrev b2e:Stmt:=top 49
theorem b6j:a0r ["words","word"] ["words"] (a0f b2e):=by fail "sc"
abbrev c9n:Stmt:=top 48
theorem d5z:a0r ["words","n","deed"] ["words","n"] (a0f c9n):=by fail "sc"
abbrev b8m:Stmt:=a2a (top 52) 2
theorem d6p:a0r ["self","words"] ["self","words"] (a0f b8m):=by fail "sc"
abbrev b7q:Stmt:=top 79
theorem c2x:a0r ["_law_draw","_law_k","_law_number"] ["_law_draw","_law_k"] (a0f b7q):=by fail "sc"
abbrev c5e:Stmt:=top 84
theorem b1z:a0r ["_law_draw","_law_n","_law_k","_law_some"] ["_law_draw","_law_n"] (a0f c5e):=by fail "sc"
abbrev b7m:Stmt:=top 80
theorem b1b:a0r ["_law_draw","_law_n","_law_way","_law_k","_law_j"] ["_law_draw","_law_n"] (a0f b7m):=by fail "sc"
abbrev c1b:Stmt:=top 81
theorem c5t:a0r ["_law_draw","_law_k","_law_n","_law_number"] ["_law_draw","_law_k","_law_n"] (a0f c1b):=by fail "sc"
abbrev b7w:Stmt:=top 82
theorem a3p:a0r ["_law_draw","_law_n","_law_xs","_law_zs","_law_way","_law_bit","_law_other"] ["_law_draw","_law_n"] (a0f b7w):=by fail "sc"
abbrev c5k:Stmt:=top 83
theorem c1r:a0r ["_law_draw","_law_n","_law_xs","_law_zs"] ["_law_draw","_law_n"] (a0f c5k):=by fail "sc"
abbrev b3r:Stmt:=top 78
theorem d2g:a0r ["_law_script","_law_k"] ["_law_script","_law_k"] (a0f b3r):=by fail "sc"
abbrev b5c:Stmt:=a2a (top 64) 1
theorem d4g:a0r ["self"] ["self"] (a0f b5c):=by fail "sc"
abbrev b7f:Stmt:=a2a (top 76) 1
theorem d7t:a0r ["self"] ["self"] (a0f b7f):=by fail "sc"
abbrev b2a:Stmt:=a2a (top 52) 1
theorem c7y:a0r ["self"] ["self"] (a0f b2a):=by fail "sc"
abbrev s_ones:Stmt:=top 4
theorem c9d:a0r ["number","found","rest"] ["number"] (a0f s_ones):=by fail "sc"
abbrev b5e:Stmt:=top 30
theorem c0c:a0r ["one","other","crossings"] ["one","other"] (a0f b5e):=by fail "sc"
abbrev a7t:Stmt:=top 34
theorem c3a:a0r ["rows"] ["rows"] (a0f a7t):=by fail "sc"
abbrev c0z:Stmt:=a2a (top 66) 4
theorem sc_Span_rank:a0r ["self"] ["self"] (a0f c0z):=by fail "sc"
abbrev b3k:Stmt:=a2a (top 66) 2
theorem a3w:a0r ["self","number","which","left","lead","total","parts"] ["self","number","which"] (a0f b3k):=by fail "sc"
abbrev b8v:Stmt:=top 7
theorem d8e:a0r ["number"] ["number"] (a0f b8v):=by fail "sc"
abbrev c1h:Stmt:=a2a (top 66) 1
theorem c6g:a0r ["self","number","left"] ["self","number"] (a0f c1h):=by fail "sc"
abbrev b1v:Stmt:=a2a (top 66) 0
theorem b6m:a0r ["self","numbers","number"] ["self","numbers"] (a0f b1v):=by fail "sc"
abbrev c1n:Stmt:=top 67
theorem sc_are_apart:a0r ["numbers"] ["numbers"] (a0f c1n):=by fail "sc"
abbrev s_fits:Stmt:=top 28
theorem sc_fits:a0r ["number","n"] ["number","n"] (a0f s_fits):=by fail "sc"
abbrev b0w:Stmt:=top 26
theorem b9y:a0r ["thing","n"] ["thing","n"] (a0f b0w):=by fail "sc"
abbrev d7s:Stmt:=top 27
theorem sc_is_row:a0r ["thing","n"] ["thing","n"] (a0f d7s):=by fail "sc"
abbrev b3m:Stmt:=top 35
theorem d0h:a0r ["row","n"] ["row","n"] (a0f b3m):=by fail "sc"
abbrev a7z:Stmt:=top 69
theorem b3n:a0r ["rows","n"] ["rows","n"] (a0f a7z):=by fail "sc"
abbrev c5f:Stmt:=top 71
theorem sc_has_sign:a0r ["row","sign","n"] ["row","sign","n"] (a0f c5f):=by fail "sc"
abbrev c1c:Stmt:=top 32
theorem sc_letters_y:a0r ["row"] ["row"] (a0f c1c):=by fail "sc"
abbrev s_times:Stmt:=top 31
theorem c3t:a0r ["one","other","xs","zs","minuses","quarters"] ["one","other"] (a0f s_times):=by fail "sc"
abbrev a9f:Stmt:=top 72
theorem b7b:a0r ["rows","sign","leading","n"] ["rows","sign","leading","n"] (a0f a9f):=by fail "sc"
abbrev c3b:Stmt:=top 70
theorem a7r:a0r ["rows","n","rest","told","sign","leading","first"] ["rows","n"] (a0f c3b):=by fail "sc"
abbrev c4j:Stmt:=top 86
theorem sc__law_now:a0r ["_law_machine"] ["_law_machine"] (a0f c4j):=by fail "sc"
abbrev s_added:Stmt:=top 21
theorem c8v:a0r ["one","other","told","b","pair"] ["one","other"] (a0f s_added):=by fail "sc"
abbrev c4a:Stmt:=top 62
theorem b1j:a0r ["whole","row","told","b","pair","minuses"] ["whole","row"] (a0f c4a):=by fail "sc"
abbrev c9j:Stmt:=top 63
theorem sc_half_by:a0r ["whole","row","value"] ["whole","row","value"] (a0f c9j):=by fail "sc"
abbrev a8c:Stmt:=a2a (top 64) 3
theorem c0w:a0r ["self","row"] ["self","row"] (a0f a8c):=by fail "sc"
abbrev b1k:Stmt:=a2a (top 66) 3
theorem b6e:a0r ["self","number","left"] ["self","number"] (a0f b1k):=by fail "sc"
abbrev c8z:Stmt:=top 74
theorem sc_widest:a0r ["rows"] ["rows"] (a0f c8z):=by fail "sc"
abbrev c7z:Stmt:=top 5
theorem sc_places:a0r ["number"] ["number"] (a0f c7z):=by fail "sc"
abbrev b8e:Stmt:=top 33
theorem b0z:a0r ["rows","product","row"] ["rows"] (a0f b8e):=by fail "sc"
abbrev b8q:Stmt:=top 73
theorem a8w:a0r ["rows","row","width","parts","numbers","product"] ["rows","row"] (a0f b8q):=by fail "sc"
abbrev a7x:Stmt:=a2a (top 76) 3
theorem b1r:a0r ["self","row","found"] ["self","row"] (a0f a7x):=by fail "sc"
abbrev b3s:Stmt:=a2a (top 64) 4
theorem d0v:a0r ["self","row","value"] ["self","row","value"] (a0f b3s):=by fail "sc"
abbrev a5k:Stmt:=a2a (top 76) 4
theorem a6a:a0r ["self","row","value","staying","crossing","mended"] ["self","row","value"] (a0f a5k):=by fail "sc"
abbrev c1k:Stmt:=top 29
theorem sc_weight_of:a0r ["row"] ["row"] (a0f c1k):=by fail "sc"
abbrev b8w:Stmt:=top 53
theorem d8w:a0r ["row","n"] ["row","n"] (a0f b8w):=by fail "sc"
abbrev b5r:Stmt:=top 54
theorem d3r:a0r ["draw"] ["draw"] (a0f b5r):=by fail "sc"
abbrev a5h:Stmt:=a2a (top 52) 3
theorem b1n:a0r ["self","row","draw","sure","drawn"] ["self","row","draw"] (a0f a5h):=by fail "sc"
abbrev d0g:Stmt:=top 58
theorem sc_is_look:a0r ["step"] ["step"] (a0f d0g):=by fail "sc"
abbrev c4x:Stmt:=top 59
theorem sc_look_row:a0r ["look"] ["look"] (a0f c4x):=by fail "sc"
abbrev b7x:Stmt:=top 57
theorem d8u:a0r ["step","n"] ["step","n"] (a0f b7x):=by fail "sc"
abbrev b1f:Stmt:=top 56
theorem b2r:a0r ["machine","work","draw","steps","step","told"] ["machine","work","draw"] (a0f b1f):=by fail "sc"
abbrev a4r:Stmt:=top 85
theorem b8g:a0r ["_law_machine","_law_work","_law_calls","e"] ["_law_machine","_law_work","_law_calls"] (a0f a4r):=by fail "sc"
abbrev c6u:Stmt:=top 87
theorem b0u:a0r ["_law_script","_law_n","_law_work","_law_at","_law_words_here","_law_due","_law_bad_here","_law_looks","_law_machine","_law_before","_law_calls","_law_handed","_law_found"] ["_law_script"] (a0f c6u):=by fail "sc"
structure Txt_D (K:PySem.W.Frag)(a8f:DK->Addr):Prop where
 cl:∀ d,Cls K (a8f d)
 n_word:∀ d,a8m K (a8f d) "word"
 n_undoer:∀ d,a8m K (a8f d) "undoer"
 n_at:∀ d,a8m K (a8f d) "at"
def a6p (a3h a1f a3j a3m a2h a3k:Addr):DK->Addr
 | .over=>a3h
 | .quarter=>a1f
 | .back=>a3j
 | .both=>a3m
 | .wher=>a2h
 | .swap=>a3k
structure Txt_M (K:PySem.W.Frag)(a6g:MK->Addr):Prop where
 cl:∀ d,Cls K (a6g d)
 n_amounts:∀ d,a8m K (a6g d) "amounts"
 n_n:∀ d,a8m K (a6g d) "n"
 n_kept:∀ d,a8m K (a6g d) "kept"
 ty:∀ d,TyC K (a6g d)
 kt:∀ d e,PySem.W.kitOne K (.ref (a6g d)) (.ref (a6g e)) = some (decide (d=e))
def a5v (a1p a1q:Addr):MK->Addr
 | .ex=>a1p
 | .sg=>a1q
structure Txt_N (K:PySem.W.Frag)(c1w:SK->Addr):Prop where
 cl:∀ d,Cls K (c1w d)
 n_sums:∀ d,a8m K (c1w d) "sums"
 n_taken:∀ d,a8m K (c1w d) "taken"
def b8c (a6s:Addr):SK->Addr
 | .span=>a6s
def sp__law_put (K:PySem.W.Frag):Sp:=fun vs H Q _=>∃ (f a:Addr) (b:Nat),vs=[.ref f,.int b,.ref a]/\∃ (p:Int × Int) (ws:Wh) (kvs:List (Key × V)),SqT K H a [.int p.1,.int p.2]/\H f=some (.dK kvs)/\WR K H ws kvs/\ws.length <= 250/\
 ∀ H' kvs',H' f=some (.dK kvs')->WR K H' (wadd ws b p) kvs'->But f H H'->Q .non H'
theorem wput_len (ws:Wh)(b:Nat)(p:Int × Int):(wput ws b p).length <= ws.length + 1:=by
 unfold wput
 split <;> simp
theorem deedF_step {d:Dd}(h:ws[i]? = some e):b2b d (ws.take (i + 1)) = d4j (b2b d (ws.take i)) (c4n d.k (d.w.getD 0 0) (d.w.getD 1 0) e):=by
 unfold b2b;rw [a1g h,List.foldl_append];rfl
theorem c8u:∀ (es ws:Wh),(d4j ws es).length <= ws.length + es.length
 | [],ws=>by simp [d4j]
 | e :: es,ws=>by
  have h:=c8u es (wadd ws e.1 e.2);have h2:=wput_len ws e.1 (((wat ws e.1).getD (0,0)).1 + e.2.1,((wat ws e.1).getD (0,0)).2 + e.2.2);show (d4j (wadd ws e.1 e.2) es).length <= _;unfold wadd at h ⊢;simp only [List.length_cons];omega
theorem deedW_len (k:DK)(i j:Nat)(e:Nat × Int × Int):(c4n k i j e).length <= 2:=by cases k <;> simp [c4n]
theorem ne_mod {n t:Nat}(hj:j < n)(h1:1 <= t)(h2:t < n):(j + t) % n ≠ j:=by
 rcases Nat.lt_or_ge (j + t) n with h | h
 ·rw [Nat.mod_eq_of_lt h];omega
 ·rw [Nat.mod_eq_sub_mod h,Nat.mod_eq_of_lt (by omega)];omega
theorem ne_modI {n:Nat}{r:Int}(hj:j < n)(h0:0 <= r)(h2:r < (n:Int) - 1)(e:((j:Int) + 1 + r) % (n:Int) = (i:Int)):j ≠ i:=by
 obtain ⟨t,rfl⟩:∃ t:Nat,r=(t:Int):=⟨r.toNat,by omega⟩
 have e2:((j + (1 + t)) % n:Nat) = i:=by
  have e3:(j:Int) + 1 + (t:Int) = ((j + (1 + t):Nat):Int):=by push_cast; omega
  rw [e3,<- Int.natCast_emod] at e;exact Int.ofNat_inj.mp e
 intro z;exact ne_mod hj (by omega) (by omega) (e2.trans z.symm)
def c2v (K:PySem.W.Frag):Sp:=fun vs H Q _=>∃ (c:Int) (n:Nat),vs=[.int c,.int n]/\0 < n/\n <= 40/\∀ p H' (d:Dd),a2c H H'->H' p=some (.tup (.str d.k.word :: vn d.w))->d.Ok n->Q (.ref p) H'
theorem d0m:∀ {a b:List Nat},a.map (fun x:Nat=>(x:Int)) = b.map (fun x:Nat=>(x:Int))->a=b
 | [],[],_=>rfl
 | [],_ :: _,h=>by cases h
 | _ :: _,[],h=>by cases h
 | x :: r,y :: t,h=>by
  simp only [List.map_cons,List.cons.injEq] at h;rw [Int.ofNat_inj.mp h.1,d0m h.2]
theorem dd_eq {d e:Dd}(hk:d.k=e.k)(hw:d.w.map (fun x:Nat=>(x:Int)) = e.w.map (fun x:Nat=>(x:Int))):d=e:=by
 obtain ⟨k,w⟩:=d;obtain ⟨k',w'⟩:=e;cases hk;have hw':w=w':=d0m hw;rw [hw']
theorem d1y:∀ {l:List Nat},l.Nodup->(l.map fun x:Nat=>(x:Int)).Nodup
 | [],_=>by simp
 | x :: r,h=>by
  rw [List.nodup_cons] at h;rw [List.map_cons,List.nodup_cons];refine ⟨fun z=>?_,d1y h.2⟩;obtain ⟨y,hy,e⟩:=List.mem_map.mp z;have e2:y=x:=Int.ofNat_inj.mp e;rw [e2] at hy;exact h.1 hy
theorem vn_app (a b:List Nat):vn a ++ vn b=vn (a ++ b):=by unfold vn; rw [List.map_append]
theorem disp_at {p1 p2:Addr}{b:Nat}(h1:H p1=none)(h2:(upd H p1 (.dK [])) p2=none) :
  a2c H (upd (upd (upd H p1 (.dK [])) p2 (.tup [.int 1,.int 0])) p1 (.dK [(.inl ((b:Nat):Int),.ref p2)]))/\(upd (upd (upd H p1 (.dK [])) p2 (.tup [.int 1,.int 0])) p1 (.dK [(.inl ((b:Nat):Int),.ref p2)])) p1=some (.dK [(.inl ((b:Nat):Int),.ref p2)])/\
   WR K (upd (upd (upd H p1 (.dK [])) p2 (.tup [.int 1,.int 0])) p1 (.dK [(.inl ((b:Nat):Int),.ref p2)])) [(b,(1,0))] [(.inl ((b:Nat):Int),.ref p2)]:=by
 have hne:p2 ≠ p1:=Ne.symm (a0n a0c h2);refine ⟨fun c o e=>?_,a0c,.cons (SqT.of ?_) .nil⟩
 ·rw [a0q (a0n e h1)];exact a0b h2 _ _ _ (a0b h1 _ _ _ e)
 ·rw [a0q hne];exact a0c
abbrev c1z:Lam:=lamIn (("Over.on_whole":Str) ++ ".<locals>." ++ "<lambda>") a3t
abbrev c8a:Lam:=lamIn (("Where.on_whole":Str) ++ ".<locals>." ++ "<lambda>") a3g
abbrev c8p:Lam:=lamIn (("Swap.on_whole":Str) ++ ".<locals>." ++ "<lambda>") a3v
def lamTry (q:Str)(st:Stmt)(i:Nat):Lam:=match (a2z st)[i]? with
 | some (.Try [.Expr (.Call _ as _ _) _] _ _ _ _)=>(match as.getLast? with
  | some (.Lambda ps b sc pos)=>⟨q,ps,b,sc,pos⟩
  | _=>⟨q,a3n st,.Name "" ⟨0,0,0,0⟩,a0f st,⟨0,0,0,0⟩⟩)
 | _=>⟨q,a3n st,.Name "" ⟨0,0,0,0⟩,a0f st,⟨0,0,0,0⟩⟩
abbrev lam_ref:Lam:=lamTry (("_law_refusal":Str) ++ ".<locals>." ++ "<lambda>") a4r 0
def d1j (T1 T2 T3 T4:Addr)(H:Hp):Prop:=a8h H T1 c1z/\a8h H T2 c8a/\a8h H T3 c8p/\a8h H T4 lam_ref/\[T1,T2,T3,T4].Nodup
def d4e (H:Hp)(c:Addr)(i:Nat):Prop:=∃ o t,H c=some (exO c o)/\o.data=.cell (some (.int (i:Int) t))
inductive LamG (H:Hp) (f:Addr):(Nat->Nat)->Prop where
 | over {c:Addr} {i:Nat}:c7t H f c1z [("bit",c)]->d4e H c (2 ^ i)->i <= 1000->LamG H f (fun b=>b ^^^ 2 ^ i)
 | wher {c d:Addr} {i j:Nat}:c7t H f c8a [("k",d),("j",c)]->c ≠ d->d4e H c i->d4e H d j->i <= 1000->j <= 1000->LamG H f (fun b=>b ^^^ (b.testBit i).toNat * 2 ^ j)
 | swap {c d:Addr} {i j:Nat}:c7t H f c8p [("k",d),("j",c)]->c ≠ d->d4e H c i->d4e H d j->i <= 1000->j <= 1000->LamG H f (fun b=>ex b i j)
def LL (f:Addr)(vs:List V)(H:Hp)(Q:VK):Prop:=∃ (b:Nat) (g:Nat->Nat),vs=[.int b]/\LamG H f g/\Q (.int ((g b:Nat):Int)) H
def wnz (ws:Wh):Wh:=ws.filter fun e=>decide (e.2 ≠ (0,0))
def d5g (K:PySem.W.Frag):Sp:=fun vs H Q _=>∃ (a:Addr) (o:Nat) (p:Int × Int),vs=[.ref a,.int o]/\SqT K H a [.int p.1,.int p.2]/\∀ t H',a2c H H'->SqT K H' t [.int (c0v o p).1,.int (c0v o p).2]->Q (.ref t) H'
abbrev c9r (K:PySem.W.Frag):Sp:=sp__law_put K
def b2u (K:PySem.W.Frag):Sp:=fun vs H Q _=>∃ (a:Addr) (ws:Wh),vs=[.ref a]/\a9d K H a ws/\(ws.map (·.1)).Nodup/\ws.length <= 200/\∀ p H',a2c H H'->H p=none->a9d K H' p (wnz ws)->Q (.ref p) H'
def sp_moved (K:PySem.W.Frag):Sp:=fun vs H Q _=>∃ (a f:Addr) (ws:Wh) (g:Nat->Nat),vs=[.ref a,.ref f]/\a9d K H a ws/\(ws.map fun e=>g e.1).Nodup/\ws.length <= 200/\LamG H f g/\∀ p H',a2c H H'->H p=none->a9d K H' p (wnz (ws.map fun e=>(g e.1,e.2)))->Q (.ref p) H'
def b0r (K:PySem.W.Frag):Sp:=fun vs H Q _=>∃ (a:Addr) (k o:Nat) (ws:Wh),vs=[.ref a,.int k,.int o]/\a9d K H a ws/\(ws.map (·.1)).Nodup/\ws.length <= 200/\k <= 1000/\o <= 3/\∀ p H',a2c H H'->H p=none->a9d K H' p (wnz (ws.map fun e=>(e.1,c0v (o * (e.1.testBit k).toNat) e.2)))->Q (.ref p) H'
def a4n (K:PySem.W.Frag)(CD:DK->Addr)(T1 T2 T3 T4:Addr)(k:DK):Sp:=fun vs H Q _=>∃ (x a:Addr) (d:Dd) (ws:Wh),vs=[.ref x,.ref a]/\d.k=k/\DdAt CD H x d/\d.w.Nodup/\(∀ i ∈ d.w,i <= 1000)/\a9d K H a ws/\(ws.map (·.1)).Nodup/\ws.length <= 90/\d1j T1 T2 T3 T4 H/\
 ∀ p H',b5f H H'->d1j T1 T2 T3 T4 H'->H p=none->a9d K H' p (wnz (b2b d ws))->Q (.ref p) H'
abbrev c7a (K:PySem.W.Frag)(CD:DK->Addr)(T1 T2 T3 T4:Addr):Sp:=a4n K CD T1 T2 T3 T4 .over
abbrev c1m (K:PySem.W.Frag)(CD:DK->Addr)(T1 T2 T3 T4:Addr):Sp:=a4n K CD T1 T2 T3 T4 .quarter
abbrev c7w (K:PySem.W.Frag)(CD:DK->Addr)(T1 T2 T3 T4:Addr):Sp:=a4n K CD T1 T2 T3 T4 .back
abbrev c7h (K:PySem.W.Frag)(CD:DK->Addr)(T1 T2 T3 T4:Addr):Sp:=a4n K CD T1 T2 T3 T4 .both
abbrev c5g (K:PySem.W.Frag)(CD:DK->Addr)(T1 T2 T3 T4:Addr):Sp:=a4n K CD T1 T2 T3 T4 .wher
abbrev c7u (K:PySem.W.Frag)(CD:DK->Addr)(T1 T2 T3 T4:Addr):Sp:=a4n K CD T1 T2 T3 T4 .swap
theorem a9d.to {a:Addr}(h:a9d K H a ws)(s:b5f H H'):a9d K H' a ws:=by
 obtain ⟨kvs,h1,h2⟩:=h;exact ⟨kvs,s _ _ h1 (by intro p z; cases z),h2.stay fun a xs x=>SqT.stayT s x⟩
theorem d1j.to (h:d1j T1 T2 T3 T4 H)(s:a2c H H'):d1j T1 T2 T3 T4 H':=⟨h.1.same s,h.2.1.same s,h.2.2.1.same s,h.2.2.2.1.same s,h.2.2.2.2⟩
theorem LamG.fn {g:Nat->Nat}(h:LamG H f g):∃ o fd,H f=some (exO f o)/\o.data=.func fd:=by
 cases h with
 | over a _ _=>obtain ⟨c',oc,pm,ctv,hf,_⟩:=a; exact ⟨_,_,hf,rfl⟩
 | wher a _ _ _ _ _=>obtain ⟨c',oc,pm,ctv,hf,_⟩:=a; exact ⟨_,_,hf,rfl⟩
 | swap a _ _ _ _ _=>obtain ⟨c',oc,pm,ctv,hf,_⟩:=a; exact ⟨_,_,hf,rfl⟩
theorem SqT.unc {K:PySem.W.Frag}{G:Hp}{cl:List (Str × Addr)}(hc:∀ p ∈ cl,∃ o,G p.2=some (exO p.2 o)){a:Addr}{xs:List V}(h:SqT K G a xs):SqT K (unc cl G) a xs:=by
 have out:∀ {b u},G b=some u->(∀ o,u ≠ exO b o)->L2.unc cl G b=some u:=fun {b u} e n=>by
  rw [a6f fun z=>?_]
  ·exact e
  ·obtain ⟨p,hp,rfl⟩:=List.mem_map.mp z;obtain ⟨o,eo⟩:=hc p hp;rw [e] at eo;exact n o (Option.some.inj eo)
 rcases h with (h | ⟨o,h⟩) | h
 ·exact .inl (.inl (out h (by intro o z; cases z)))
 ·exact .inl (.inr ⟨o,out h (by intro o z; cases z)⟩)
 ·exact .inr h
theorem a9d.unc {K:PySem.W.Frag}{G:Hp}{cl:List (Str × Addr)}(hc:∀ p ∈ cl,∃ o,G p.2=some (exO p.2 o)){a:Addr}{ws:Wh}(h:a9d K G a ws):a9d K (L2.unc cl G) a ws:=by
 obtain ⟨kvs,h1,h2⟩:=h;refine ⟨kvs,?_,h2.stay fun b xs x=>SqT.unc hc x⟩;rw [a6f fun z=>?_]
 ·exact h1
 ·obtain ⟨p,hp,rfl⟩:=List.mem_map.mp z;obtain ⟨o,eo⟩:=hc p hp;rw [h1] at eo;cases eo
theorem c3k {g:Nat->Nat}(hg:∀ a b,g a=g b->a=b):∀ {ws:Wh},(ws.map (·.1)).Nodup->(ws.map fun e=>g e.1).Nodup
 | [],_=>by simp
 | e :: ws,h=>by
  rw [List.map_cons,List.nodup_cons] at h ⊢;refine ⟨fun z=>h.1 ?_,c3k hg h.2⟩;obtain ⟨e2,h2,h3⟩:=List.mem_map.mp z;exact List.mem_map.mpr ⟨e2,h2,hg _ _ h3⟩
theorem nd4 {a d:Addr}(h:[a,b,c,d].Nodup):a ≠ b/\a ≠ c/\b ≠ c/\a ≠ d/\b ≠ d/\c ≠ d:=by
 rw [List.nodup_cons,List.nodup_cons,List.nodup_cons] at h;exact ⟨fun z=>h.1 (by simp [z]),fun z=>h.1 (by simp [z]),fun z=>h.2.1 (by simp [z]),fun z=>h.1 (by simp [z]),fun z=>h.2.1 (by simp [z]),fun z=>h.2.2.1 (by simp [z])⟩
theorem inv_inj {g:Nat->Nat}(h:∀ b,g (g b) = b):∀ a b,g a=g b->a=b:=fun a b e=>by rw [<- h a,e,h]
theorem xor_two (b x:Nat):b ^^^ x ^^^ x=b:=by rw [Nat.xor_assoc,Nat.xor_self,Nat.xor_zero]
theorem wher_two (hij:i ≠ j)(b:Nat):(b ^^^ (b.testBit i).toNat * 2 ^ j) ^^^ ((b ^^^ (b.testBit i).toNat * 2 ^ j).testBit i).toNat * 2 ^ j=b:=by
 have e:(b ^^^ (b.testBit i).toNat * 2 ^ j).testBit i=b.testBit i:=by
  rw [Nat.testBit_xor,b4n,decide_eq_false (Ne.symm hij),Bool.false_and,Bool.xor_false]
 rw [e,xor_two]
theorem ex_two (hij:i ≠ j)(b:Nat):ex (ex b i j) i j=b:=by
 have hji:j ≠ i:=Ne.symm hij
 have e:((ex b i j).testBit i ^^ (ex b i j).testBit j) = (b.testBit i ^^ b.testBit j):=by
  unfold ex;simp only [Nat.testBit_xor,b4n,hij,hji,decide_true,decide_false,Bool.true_and,Bool.false_and,Bool.xor_false];cases b.testBit i <;> cases b.testBit j <;> rfl
 show ex b i j ^^^ ((ex b i j).testBit i ^^ (ex b i j).testBit j).toNat * 2 ^ i ^^^ ((ex b i j).testBit i ^^ (ex b i j).testBit j).toNat * 2 ^ j=b;rw [e];unfold ex;generalize (b.testBit i ^^ b.testBit j).toNat * 2 ^ i=u;generalize (b.testBit i ^^ b.testBit j).toNat * 2 ^ j=v;apply Nat.eq_of_testBit_eq;intro q;simp only [Nat.testBit_xor];cases b.testBit q <;> cases u.testBit q <;> cases v.testBit q <;> rfl
theorem b7h {d:Dd}{f:Nat × Int × Int->Nat × Int × Int}(hf:∀ e,c4n d.k (d.w.getD 0 0) (d.w.getD 1 0) e=[f e])(nd:(ws.map fun e=>(f e).1).Nodup):b2b d ws=ws.map f:=by
 have key:∀ (es acc:Wh),((acc ++ es.map f).map (·.1)).Nodup->es.foldl (fun acc e=>d4j acc (c4n d.k (d.w.getD 0 0) (d.w.getD 1 0) e)) acc=acc ++ es.map f:=by
  intro es
  induction es with
  | nil=>intro acc _; simp
  | cons e es ih=>
   intro acc h
   have h1:∀ x ∈ acc,x.1 ≠ (f e).1:=fun x hx z=>by
    rw [List.map_cons,List.map_append,List.nodup_append] at h;exact h.2.2 x.1 (List.mem_map.mpr ⟨x,hx,rfl⟩) (f e).1 (by simp) z
   have h2:d4j acc (c4n d.k (d.w.getD 0 0) (d.w.getD 1 0) e) = acc ++ [f e]:=by
    rw [hf];exact wadd_new h1
   rw [List.foldl_cons,h2,ih (acc ++ [f e]) (by rw [List.append_assoc]; exact h),List.append_assoc];rfl
 have:=key ws [] (by rw [List.nil_append,List.map_map]; exact nd);rw [List.nil_append] at this;exact this
theorem b5g (s:a2c H H')(h:H' p=none):H p=none:=by
 cases e:H p with
 | none=>rfl
 | some o=>rw [s _ _ e] at h; cases h
theorem LamG.ex {g:Nat->Nat}(h:LamG H f g)(s:∀ c o,H c=some (exO c o)->H' c=some (exO c o)):LamG H' f g:=by
 have la:∀ {l:Lam} {cl:List (Str × Addr)},c7t H f l cl->c7t H' f l cl:=fun ⟨c,oc,pm,ctv,h1,h2,h3⟩=>⟨c,oc,pm,ctv,s _ _ h1,s _ _ h2,h3⟩;have ce:∀ {c i},d4e H c i->d4e H' c i:=fun ⟨o,t,h1,h2⟩=>⟨o,t,s _ _ h1,h2⟩
 cases h with
 | over a b c=>exact .over (la a) (ce b) c
 | wher a n b c d e=>exact .wher (la a) n (ce b) (ce c) d e
 | swap a n b c d e=>exact .swap (la a) n (ce b) (ce c) d e
theorem d6r {f:Nat × Int × Int->Nat × Int × Int}(nd:(ws.map fun e=>(f e).1).Nodup)(h:ws[i]? = some e):(ws.take (i + 1)).map f=wput ((ws.take i).map f) (f e).1 (f e).2:=by
 have hi:=(List.getElem?_eq_some_iff.mp h).1;rw [a1g h,List.map_append,d7u]
 ·rfl
 ·intro x hx z;obtain ⟨y,hy,rfl⟩:=List.mem_map.mp hx;obtain ⟨j,hj⟩:=List.getElem?_of_mem hy;have hj2:=(List.getElem?_eq_some_iff.mp hj).1;rw [List.length_take] at hj2;rw [List.getElem?_take_of_lt (by omega)] at hj;have e1:(ws.map fun e=>(f e).1)[j]? = some (f y).1:=by rw [List.getElem?_map,hj]; rfl
  have e2:(ws.map fun e=>(f e).1)[i]? = some (f e).1:=by rw [List.getElem?_map,h]; rfl
  rw [z] at e1;obtain ⟨l1,g1⟩:=List.getElem?_eq_some_iff.mp e1;obtain ⟨l2,g2⟩:=List.getElem?_eq_some_iff.mp e2;have:=(List.getElem_inj nd).mp (g1.trans g2.symm);omega
theorem wnz_step (nd:(ws.map (·.1)).Nodup)(h:ws[i]? = some e):wnz (ws.take (i + 1)) = if e.2 ≠ (0,0) then wput (wnz (ws.take i)) e.1 e.2 else wnz (ws.take i):=by
 have hs:=d6r (f:=id) (by simpa using nd) h;unfold wnz;rw [a1g h,List.filter_append]
 by_cases c:e.2=(0,0)
 ·rw [if_neg (fun z=>z c)];simp [c]
 ·rw [if_pos c,d7u]
  ·simp [c]
  ·intro x hx z;have hx':=(List.mem_filter.mp hx).1;obtain ⟨j,hj⟩:=List.getElem?_of_mem hx';have hj2:=(List.getElem?_eq_some_iff.mp hj).1;rw [List.length_take] at hj2;rw [List.getElem?_take_of_lt (by omega)] at hj;have e1:(ws.map (·.1))[j]? = some x.1:=by rw [List.getElem?_map,hj]; rfl
   have e2:(ws.map (·.1))[i]? = some e.1:=by rw [List.getElem?_map,h]; rfl
   rw [z] at e1;obtain ⟨l1,g1⟩:=List.getElem?_eq_some_iff.mp e1;obtain ⟨l2,g2⟩:=List.getElem?_eq_some_iff.mp e2;have:=(List.getElem_inj nd).mp (g1.trans g2.symm);omega
theorem wnz_len (ws:Wh):(wnz ws).length <= ws.length:=List.length_filter_le _ _
theorem down_clr (b i:Nat):(b ||| 2 ^ i) ^^^ 2 ^ i=clr b i:=by
 apply Nat.eq_of_testBit_eq;intro q;rw [Nat.testBit_xor,Nat.testBit_or,d4p,Nat.testBit_two_pow]
 by_cases h:i=q
 ·subst h; simp
 ·simp [h]
theorem clr_down (b i:Nat):clr b i + 2 ^ i=b ||| 2 ^ i:=by
 have h:=add_bit (a:=clr b i) (i:=i) (b:=true) (by rw [d4p]; simp);rw [Bool.toNat_true,Nat.one_mul] at h;rw [h,<- down_clr,xor_two]
theorem down_eq (b i:Nat):b=b ||| 2 ^ i ↔ b.testBit i=true:=by
 constructor
 ·intro e;rw [e,Nat.testBit_or,Nat.testBit_two_pow_self,Bool.or_true]
 ·intro e;apply Nat.eq_of_testBit_eq;intro q;rw [Nat.testBit_or,Nat.testBit_two_pow]
  by_cases h:i=q
  ·subst h; simp [e]
  ·simp [h]
theorem deedF_len (d:Dd)(ws:Wh):(b2b d ws).length <= 2 * ws.length:=by
 have key:∀ (es acc:Wh),(es.foldl (fun acc e=>d4j acc (c4n d.k (d.w.getD 0 0) (d.w.getD 1 0) e)) acc).length <= acc.length + 2 * es.length:=by
  intro es
  induction es with
  | nil=>intro acc; simp
  | cons e es ih=>
   intro acc;have h1:=ih (d4j acc (c4n d.k (d.w.getD 0 0) (d.w.getD 1 0) e));have h2:=c8u (c4n d.k (d.w.getD 0 0) (d.w.getD 1 0) e) acc;have h3:=deedW_len d.k (d.w.getD 0 0) (d.w.getD 1 0) e;rw [List.foldl_cons,List.length_cons];omega
 have:=key ws [];rw [List.length_nil] at this;unfold b2b;omega
theorem wadd_nd {b:Nat}{p:Int × Int}(h:(ws.map (·.1)).Nodup):((wadd ws b p).map (·.1)).Nodup:=by
 unfold wadd;rw [wput_keys]
 split
 ·exact h
 ·rename_i hn;refine List.nodup_append.mpr ⟨h,by simp,fun x hx y hy z=>hn ?_⟩;rw [List.mem_singleton.mp hy] at z;obtain ⟨e,he,rfl⟩:=List.mem_map.mp hx;rw [List.any_eq_true];exact ⟨e,he,by simpa using z⟩
theorem deedF_nd (d:Dd)(ws:Wh):((b2b d ws).map (·.1)).Nodup:=by
 have ad:∀ (es acc:Wh),(acc.map (·.1)).Nodup->((d4j acc es).map (·.1)).Nodup:=by
  intro es
  induction es with
  | nil=>intro acc h; exact h
  | cons e es ih=>intro acc h; exact ih _ (wadd_nd h)
 have key:∀ (es acc:Wh),(acc.map (·.1)).Nodup->((es.foldl (fun acc e=>d4j acc (c4n d.k (d.w.getD 0 0) (d.w.getD 1 0) e)) acc).map (·.1)).Nodup:=by
  intro es
  induction es with
  | nil=>intro acc h; exact h
  | cons e es ih=>intro acc h; exact ih _ (ad _ _ h)
 exact key ws [] (by simp)
theorem wnz_nd (h:(ws.map (·.1)).Nodup):((wnz ws).map (·.1)).Nodup:=h.sublist (List.Sublist.map _ List.filter_sublist)
theorem whAt_neN {a:Addr}(h:a9d K H a ws)(h2:a9d K H b ws)(nd:(ws.map (·.1)).Nodup)(q:Q (.bl false) H):rEqM true K (.ref a) (.ref b) H Q:=by
 obtain ⟨kvs,ha,h⟩:=h;obtain ⟨kvs2,hb,h2⟩:=h2;refine st_eqM (.inl ha) (.inl hb) (h.dv nd) (h2.dv nd) ?_;rw [h.same h2 rfl (fun _=>rfl) fun b hb=>wat_mem hb];exact q
theorem c8w (s:a2c H H'):b5f H H':=fun a o e _=>s a o e
def d5v (CM:MK->Addr)(H:Hp)(x:Addr)(n:Nat)(a:Addr):Prop:=∃ dx,H x=some (.ins (CM .ex) dx [("n",.int n),("amounts",.ref a)])
def b9z (K:PySem.W.Frag)(CM:MK->Addr):Sp:=fun vs H Q _=>∃ (x a:Addr) (n:Nat) (ws:Wh),vs=[.ref x]/\d5v CM H x n a/\a9d K H a ws/\∀ p H',a2c H H'->H p=none->a9d K H' p ws->Q (.ref p) H'
def d5p (x:Addr)(H H':Hp):Prop:=∀ a o,a ≠ x->H a=some o->(∀ ps,o ≠ .tbl ps)->H' a=some o
def b6u (K:PySem.W.Frag)(CD:DK->Addr)(CM:MK->Addr)(T1 T2 T3 T4:Addr):Sp:=fun vs H Q _=>∃ (x y a:Addr) (n:Nat) (d:Dd) (ws:Wh),vs=[.ref x,.ref y]/\d5v CM H x n a/\DdAt CD H y d/\d.w.Nodup/\(∀ i ∈ d.w,i <= 1000)/\a9d K H a ws/\(ws.map (·.1)).Nodup/\ws.length <= 90/\d1j T1 T2 T3 T4 H/\
 ∀ p H',d5p x H H'->d1j T1 T2 T3 T4 H'->H p=none->d5v CM H' x n p->a9d K H' p (wnz (b2b d ws))->Q .non H'
def b8r (K:PySem.W.Frag):Sp:=fun vs H Q _=>∃ (a:Addr) (k:Nat) (ns:List Int),vs=[.ref a,.int k]/\SqL K H a (ns.map V.int)/\∀ c:Int,Q (.int c) H
def c3u (K:PySem.W.Frag):Sp:=fun vs H Q _=>∃ (c:Int) (k:Nat),vs=[.int c,.int k]/\k <= 100/\∀ m:Nat,m < 2147483629->Q (.int m) H
structure Wn (n:Nat)(ws:Wh):Prop where
 nd:(ws.map (·.1)).Nodup
 nz:∀ e ∈ ws,e.2 ≠ (0,0)
 lt:∀ e ∈ ws,e.1 < 2 ^ n
def k5:Nat->DK
 | 0=>.over | 1=>.quarter | 2=>.back | 3=>.both | _=>.both
def k4:Nat->DK
 | 3=>.swap | _=>.wher
theorem at_k5 (h:m < 5):atI [V.str "over",.str "quarter",.str "back",.str "both",.str "both"] (m:Int) = some (.str (k5 m).word):=by
 match m,h with
 | 0,_=>rfl
 | 1,_=>rfl
 | 2,_=>rfl
 | 3,_=>rfl
 | 4,_=>rfl
theorem at_k4 (h:m < 4):atI [V.str "where",.str "where",.str "where",.str "swap"] (m:Int) = some (.str (k4 m).word):=by
 match m,h with
 | 0,_=>rfl
 | 1,_=>rfl
 | 2,_=>rfl
 | 3,_=>rfl
theorem k5_n (m:Nat):(k5 m).n=1:=by
 match m with
 | 0=>rfl
 | 1=>rfl
 | 2=>rfl
 | 3=>rfl
 | _ + 4=>rfl
theorem k4_n (m:Nat):(k4 m).n=2:=by
 match m with
 | 0=>rfl
 | 1=>rfl
 | 2=>rfl
 | 3=>rfl
 | _ + 4=>rfl
theorem d8g {fs:List (Str × V)}(h:But f H H')(hf:H f=some (.ins C dx fs)){a:Addr}{xs:List V}(s:SqT K H a xs):SqT K H' a xs:=by
 rcases s with (e | ⟨o,e⟩) | e
 ·exact .inl (.inl (h _ _ (fun z=>by rw [z,hf] at e; cases e) e))
 ·exact .inl (.inr ⟨o,h _ _ (fun z=>by rw [z,hf] at e; cases e) e⟩)
 ·exact .inr e
theorem b8y {fs:List (Str × V)}(h:a8h H T l)(s:But f H H')(e:H f=some (.ins C dx fs)):a8h H' T l:=by
 obtain ⟨ps,h1,h2,h3⟩:=h;exact ⟨ps,s _ _ (fun z=>by rw [z,e] at h1; cases h1) h1,h2,h3.imp id fun ⟨c,o,g1,g2,g3⟩=>⟨c,o,g1,s _ _ (fun z=>by rw [z,e] at g2; cases g2) g2,g3⟩⟩
theorem c3y {fs:List (Str × V)}(h:d1j T1 T2 T3 T4 H)(s:But f H H')(e:H f=some (.ins C dx fs)):d1j T1 T2 T3 T4 H':=⟨b8y h.1 s e,b8y h.2.1 s e,b8y h.2.2.1 s e,b8y h.2.2.2.1 s e,h.2.2.2.2⟩
theorem nodup_below:∀ (N:Nat) (l:List Nat),l.Nodup->(∀ x ∈ l,x < N)->l.length <= N:=by
 intro N
 induction N with
 | zero=>
  intro l _ h
  cases l with
  | nil=>exact Nat.le_refl _
  | cons x l=>exact absurd (h x (by simp)) (by omega)
 | succ N ih=>
  intro l nd h
  have h1:=ih (l.erase N) (nd.erase _) fun x hx=>by
   have hm:=(List.Nodup.mem_erase_iff nd).mp hx;have:=h x hm.2;have:=hm.1;omega
  have h2:l.length <= (l.erase N).length + 1:=by
   rw [List.length_erase]
   split <;> omega
  omega
theorem Wn.len {n:Nat}(h:Wn n ws)(hn:n <= 6):ws.length <= 64:=by
 have h1:=nodup_below (2 ^ n) (ws.map (·.1)) h.nd fun x hx=>by
  obtain ⟨e,he,rfl⟩:=List.mem_map.mp hx;exact h.lt e he
 rw [List.length_map] at h1;exact Nat.le_trans h1 (Nat.pow_le_pow_right (by decide) hn)
theorem len1 {α:Type}{l:List α}(h:l.length=1):∃ x,l=[x]:=List.length_eq_one_iff.mp h
theorem len2 {α:Type}{l:List α}(h:l.length=2):∃ x y,l=[x,y]:=by
 match l,h with
 | [x,y],_=>exact ⟨x,y,rfl⟩
theorem wput_lt {b:Nat}{p:Int × Int}(h:∀ e ∈ ws,e.1 < N)(hb:b < N):∀ e ∈ wput ws b p,e.1 < N:=by
 intro e he;have hm:e.1 ∈ (wput ws b p).map (·.1):=List.mem_map.mpr ⟨e,he,rfl⟩
 rw [wput_keys] at hm
 split at hm
 ·obtain ⟨x,hx,ex⟩:=List.mem_map.mp hm;rw [<- ex];exact h x hx
 ·rcases List.mem_append.mp hm with hm | hm
  ·obtain ⟨x,hx,ex⟩:=List.mem_map.mp hm;rw [<- ex];exact h x hx
  ·rw [List.mem_singleton.mp hm];exact hb
theorem adds_lt :∀ (es:Wh) {acc:Wh},(∀ e ∈ acc,e.1 < N)->(∀ e ∈ es,e.1 < N)->∀ e ∈ d4j acc es,e.1 < N:=by
 intro es
 induction es with
 | nil=>intro acc h _; exact h
 | cons x es ih=>intro acc h h2; exact ih (wput_lt h (h2 x (by simp))) fun e he=>h2 e (List.mem_cons_of_mem _ he)
theorem deedW_lt {d:Dd}{n:Nat}(ok:d.Ok n)(h:e.1 < 2 ^ n):∀ x ∈ c4n d.k (d.w.getD 0 0) (d.w.getD 1 0) e,x.1 < 2 ^ n:=by
 obtain ⟨k,wl⟩:=d;have hlen:=ok.len;have hlt:=ok.lt;have hnd:=ok.nd;have p2:∀ i,i < n->2 ^ i < 2 ^ n:=fun i hi=>Nat.pow_lt_pow_right (by decide) hi;intro x hx
 cases k with
 | over=>
  obtain ⟨i,rfl⟩:∃ i,wl=[i]:=len1 hlen;rw [List.mem_singleton.mp hx];exact Nat.xor_lt_two_pow h (p2 i (hlt i (by simp)))
 | quarter=>rw [List.mem_singleton.mp hx]; exact h
 | back=>rw [List.mem_singleton.mp hx]; exact h
 | both=>
  obtain ⟨i,rfl⟩:∃ i,wl=[i]:=len1 hlen;have hc:clr e.1 i <= e.1:=Nat.sub_le _ _
  rcases List.mem_cons.mp hx with rfl | hx
  ·exact Nat.lt_of_le_of_lt hc h
  ·rw [List.mem_singleton.mp hx];show clr e.1 i + 2 ^ i < 2 ^ n;rw [clr_down];exact Nat.or_lt_two_pow h (p2 i (hlt i (by simp)))
 | wher=>
  obtain ⟨i,j,rfl⟩:∃ i j,wl=[i,j]:=len2 hlen;rw [List.mem_singleton.mp hx];exact Nat.xor_lt_two_pow h (b4u (hlt j (by simp)))
 | swap=>
  obtain ⟨i,j,rfl⟩:∃ i j,wl=[i,j]:=len2 hlen;have hij:i ≠ j:=by simp at hnd; exact hnd
  rw [List.mem_singleton.mp hx];show clr (clr e.1 i) j + (e.1.testBit j).toNat * 2 ^ i + (e.1.testBit i).toNat * 2 ^ j < 2 ^ n;rw [swap_xor hij];unfold ex;exact Nat.xor_lt_two_pow (Nat.xor_lt_two_pow h (b4u (hlt i (by simp)))) (b4u (hlt j (by simp)))
theorem deedF_lt {d:Dd}{n:Nat}(ok:d.Ok n)(h:∀ e ∈ ws,e.1 < 2 ^ n):∀ e ∈ b2b d ws,e.1 < 2 ^ n:=by
 have key:∀ (es acc:Wh),(∀ e ∈ es,e.1 < 2 ^ n)->(∀ e ∈ acc,e.1 < 2 ^ n)->∀ e ∈ es.foldl (fun acc e=>d4j acc (c4n d.k (d.w.getD 0 0) (d.w.getD 1 0) e)) acc,e.1 < 2 ^ n:=by
  intro es
  induction es with
  | nil=>intro acc _ h; exact h
  | cons x es ih=>intro acc h1 h2; exact ih _ (fun e he=>h1 e (List.mem_cons_of_mem _ he)) (adds_lt _ h2 (deedW_lt ok (h1 x (by simp))))
 exact key ws [] h (fun e he=>by cases he)
theorem Wn.deed {d:Dd}{n:Nat}(h:Wn n ws)(ok:d.Ok n):Wn n (wnz (b2b d ws)) where
 nd:=wnz_nd (deedF_nd d ws)
 nz:=fun e he=>by
  unfold wnz at he;exact of_decide_eq_true (List.mem_filter.mp he).2
 lt:=fun e he=>by
  unfold wnz at he;exact deedF_lt ok h.lt e (List.mem_filter.mp he).1
theorem Wn.start (n:Nat):Wn n [(0,(1,0))] where
 nd:=by simp
 nz:=fun e he=>by rw [List.mem_singleton.mp he]; decide
 lt:=fun e he=>by rw [List.mem_singleton.mp he]; exact Nat.two_pow_pos n
theorem d5v.stay {CM:MK->Addr}{x:Addr}{n:Nat}{a:Addr}(h:d5v CM H x n a)(s:a2c H H'):d5v CM H' x n a:=by
 obtain ⟨dx,e⟩:=h;exact ⟨dx,s _ _ e⟩
theorem butT_sq {x:Addr}{fs:List (Str × V)}(h:d5p x H H')(hx:H x=some (.ins C dx fs)){a:Addr}{xs:List V}(s:SqT K H a xs):SqT K H' a xs:=by
 rcases s with (e | ⟨o,e⟩) | e
 ·exact .inl (.inl (h _ _ (fun z=>by rw [z,hx] at e; cases e) e (by intro ps z; cases z)))
 ·exact .inl (.inr ⟨o,h _ _ (fun z=>by rw [z,hx] at e; cases e) e (by intro ps z; cases z)⟩)
 ·exact .inr e
theorem b9n {xs:List V}(h:a8h H T l)(s:But f H H')(e:H f=some (.lst xs)):a8h H' T l:=by
 obtain ⟨ps,h1,h2,h3⟩:=h;exact ⟨ps,s _ _ (fun z=>by rw [z,e] at h1; cases h1) h1,h2,h3.imp id fun ⟨c,o,g1,g2,g3⟩=>⟨c,o,g1,s _ _ (fun z=>by rw [z,e] at g2; cases g2) g2,g3⟩⟩
theorem tabsL_but {xs:List V}(h:d1j T1 T2 T3 T4 H)(s:But f H H')(e:H f=some (.lst xs)):d1j T1 T2 T3 T4 H':=⟨b9n h.1 s e,b9n h.2.1 s e,b9n h.2.2.1 s e,b9n h.2.2.2.1 s e,h.2.2.2.2⟩
theorem take_snoc {α:Type}{l:List α}{x:α}(h:l[i]? = some x):l.take (i + 1) = l.take i ++ [x]:=by rw [List.take_succ,h]; rfl
inductive RL (K:PySem.W.Frag) (H:Hp):List Row->List V->Prop
 | nil:RL K H [] []
 | cons {r:Row} {t:Addr} {rs:List Row} {xs:List V}:H t=some (.tup r.V)->RL K H rs xs->RL K H (r :: rs) (.ref t :: xs)
theorem RL.stay {xs:List V}(h:RL K H rs xs)(s:∀ a ys,H a=some (.tup ys)->H' a=some (.tup ys)):RL K H' rs xs:=by
 induction h with
 | nil=>exact .nil
 | cons q _ ih=>exact .cons (s _ _ q) ih
theorem RL.len {xs:List V}(h:RL K H rs xs):xs.length=rs.length:=by
 induction h with
 | nil=>rfl
 | cons q _ ih=>simp [ih]
theorem RL.get {xs:List V}(h:RL K H rs xs):∀ {i:Nat} {x:V},xs[i]? = some x->∃ r t,rs[i]? = some r/\x=.ref t/\H t=some (.tup r.V):=by
 induction h with
 | nil=>intro i x e; simp at e
 | @cons r t rs xs q _ ih=>
  intro i x e
  cases i with
  | zero=>
   simp only [List.getElem?_cons_zero,Option.some.injEq] at e;exact ⟨r,t,rfl,e.symm,q⟩
  | succ i=>
   rw [List.getElem?_cons_succ] at e ⊢;exact ih e
theorem RL.snoc {xs:List V}(h:RL K H rs xs){t:Addr}(q:H t=some (.tup r.V)):RL K H (rs ++ [r]) (xs ++ [.ref t]):=by
 induction h with
 | nil=>exact .cons q .nil
 | cons q' _ ih=>exact .cons q' ih
def d2u (K:PySem.W.Frag)(CM:MK->Addr)(H:Hp)(x:Addr)(n:Nat)(rs:List Row):Prop:=∃ dx a xs,H x=some (.ins (CM .sg) dx [("n",.int n),("kept",.ref a)])/\H a=some (.lst xs)/\RL K H rs xs
def starts (n:Nat):List Row:=(List.range n).map fun k=>⟨0,0,2 ^ k⟩
def b6g (K:PySem.W.Frag)(CM:MK->Addr):Sp:=fun vs H Q _=>∃ (x:Addr) (n:Nat),vs=[.ref x]/\(∃ k dx fs,H x=some (.ins (CM k) dx (("n",.int n) :: fs)))/\Q (.int n) H
abbrev d5b (K:PySem.W.Frag)(CM:MK->Addr)(_:MK):Sp:=b6g K CM
abbrev d5u (K:PySem.W.Frag)(CM:MK->Addr)(_:Unit):Sp:=b9z K CM
def c3d (K:PySem.W.Frag)(CM:MK->Addr):Sp:=fun vs H Q _=>∃ (x:Addr) (n:Nat) (rs:List Row),vs=[.ref x]/\d2u K CM H x n rs/\rs.length <= 10/\∀ p xs H',a2c H H'->H p=none->H' p=some (.lst xs)->RL K H' rs xs->Q (.ref p) H'
abbrev sp_S_rows (K:PySem.W.Frag)(CM:MK->Addr)(_:Unit):Sp:=c3d K CM
def b7z (K:PySem.W.Frag)(CD:DK->Addr)(CM:MK->Addr):Sp:=fun vs H Q _=>∃ (x y:Addr) (n:Nat) (d:Dd) (rs:List Row),vs=[.ref x,.ref y]/\d2u K CM H x n rs/\rs.length <= 10/\DdAt CD H y d/\(∀ i ∈ d.w,i <= 1000)/\∀ H',But x H H'->d2u K CM H' x n (rs.map (act d))->Q .non H'
abbrev d2v (K:PySem.W.Frag)(CD:DK->Addr)(CM:MK->Addr)(T1 T2 T3 T4:Addr):MK->Sp
 | .ex=>b6u K CD CM T1 T2 T3 T4
 | .sg=>b7z K CD CM
theorem butI_wh {fs:List (Str × V)}(h:But f H H')(hf:H f=some (.ins C dx fs)){a:Addr}(w:a9d K H a ws):a9d K H' a ws:=by
 obtain ⟨kv,e,r⟩:=w;exact ⟨kv,h _ _ (fun z=>by rw [z,hf] at e; cases e) e,r.stay fun y ys s=>d8g h hf s⟩
theorem d2u.stay {K:PySem.W.Frag}{CM:MK->Addr}{H H':Hp}{x:Addr}{n:Nat}{rs:List Row}(h:d2u K CM H x n rs)(s:a2c H H'):d2u K CM H' x n rs:=by
 obtain ⟨dx,a,xs,h1,h2,h3⟩:=h;exact ⟨dx,a,xs,s _ _ h1,s _ _ h2,h3.stay fun y ys q=>s _ _ q⟩
theorem d2u.butT {CM:MK->Addr}{x dx0:Addr}{fs:List (Str × V)}{n:Nat}(h:d2u K CM H x n rs)(s:d5p f H H')(hf:H f=some (.ins C dx0 fs))(ne:x ≠ f):d2u K CM H' x n rs:=by
 obtain ⟨dx,a,xs,h1,h2,h3⟩:=h;exact ⟨dx,a,xs,s _ _ ne h1 (by intro ps z; cases z),s _ _ (fun z=>by rw [z,hf] at h2; cases h2) h2 (by intro ps z; cases z),h3.stay fun y ys q=>s _ _ (fun z=>by rw [z,hf] at q; cases q) q (by intro ps z; cases z)⟩
def Sm3 (H:Hp)(a:Addr)(s:Sm):Prop:=H a=some (.tup [.int ((2 ^ s.j:Nat):Int),.int (s.t:Int),.int (s.p:Int)])
def b4p (l:Addr)(t:Int):List (Str × V):=[("sums",.ref l),("taken",.int t)]
def SnAt (CD:SK->Addr)(H:Hp)(p l:Addr)(vs:List Nat)(ss:List Sm):Prop:=∃ dx as,H p=some (.ins (CD .span) dx (b4p l (vs.length:Nat)))/\H l=some (.lst (refs as))/\a6h (Sm3 H) as ss/\SpOk vs ss/\ss.length <= vs.length
def Oth (p l:Addr)(H H':Hp):Prop:=∀ c o,c ≠ p->c ≠ l->H c=some o->H' c=some o
def b6z (K:PySem.W.Frag)(CD:SK->Addr):Sp:=fun vs H Q _=>∃ (p l:Addr) (x w:Nat) (us:List Nat) (ss:List Sm),vs=[.ref p,.int x,.int w]/\SnAt CD H p l us ss/\us.length <= 100/\∀ q H',a2c H H'->H' q=some (.tup [.int ((red ss x w).1:Int),.int ((red ss x w).2:Int)])->Q (.ref q) H'
abbrev c5r (K:PySem.W.Frag)(CD:SK->Addr)(_:SK):Sp:=b6z K CD
def c5v (K:PySem.W.Frag)(CD:SK->Addr):Sp:=fun vs H Q _=>∃ (p l:Addr) (x:Nat) (us:List Nat) (ss:List Sm),vs=[.ref p,.int x]/\SnAt CD H p l us ss/\us.length <= 100/\∀ H' ss',Oth p l H H'->SnAt CD H' p l (us ++ [x]) ss'->Q .non H'
abbrev sp_N_take (K:PySem.W.Frag)(CD:SK->Addr)(_:SK):Sp:=c5v K CD
def b0g (K:PySem.W.Frag)(CD:SK->Addr):Sp:=fun vs H Q _=>∃ (p n dx:Addr) (us:List Nat),vs=[.ref p,.ref n]/\H p=some (.ins (CD .span) dx [])/\H n=some (.lst (vn us))/\us.length <= 100/\∀ H' l ss,(∀ c o,c ≠ p->H c=some o->H' c=some o)->H l=none->SnAt CD H' p l us ss->Q .non H'
def sp_ones (K:PySem.W.Frag):Sp:=fun vs H Q _=>∃ n:Nat,vs=[.int n]/\Q (.int (pop n:Nat)) H
def pls (n:Nat):List Nat:=plc n (Builtin.Int.intBits (n:Int))
def c2m (K:PySem.W.Frag):Sp:=fun vs H Q _=>∃ v:Nat,vs=[.int v]/\0 < v/\∀ j:Nat,v.testBit j=true->Q (.int ((2 ^ j:Nat):Int)) H
def c0a (K:PySem.W.Frag):Sp:=fun vs H Q _=>∃ (a b:Addr) (r q:Row),vs=[.ref a,.ref b]/\SqT K H a r.V/\SqT K H b q.V/\Q (.bl (decide (pop (crs r q) % 2=0))) H
def c6e (K:PySem.W.Frag):Sp:=fun vs H Q _=>∃ (a:Addr) (r:Row),vs=[.ref a]/\SqT K H a r.V/\Q (.int (pop (r.x &&& r.z):Nat)) H
def sp_times (K:PySem.W.Frag)(C:Addr):Sp:=fun vs H Q E=>∃ (a b:Addr) (r q:Row),vs=[.ref a,.ref b]/\SqT K H a r.V/\SqT K H b q.V/\(a4s r q=false->∀ p,H p=none->Q (.ref p) (upd H p (.tup (tm r q).V)))/\(¬ pop (crs r q) % 2=0->E (.ref C) none H)
def b7d (K:PySem.W.Frag):Sp:=fun vs H Q _=>∃ (a:Addr) (n:Nat) (r:Row),vs=[.ref a,.int n]/\SqT K H a r.V/\r.x < 2 ^ n/\r.z < 2 ^ 40/\n <= 40/\Q (.int ((r.x ^^^ r.z * 2 ^ n:Nat):Int)) H
def c6j (K:PySem.W.Frag)(CD:SK->Addr):Sp:=fun vs H Q _=>∃ (p l:Addr) (us:List Nat) (ss:List Sm),vs=[.ref p]/\SnAt CD H p l us ss/\us.length <= 100/\Q (.int (ss.length:Nat)) H
abbrev sp_N_rank (K:PySem.W.Frag)(CD:SK->Addr)(_:SK):Sp:=c6j K CD
def sp_fits (K:PySem.W.Frag):Sp:=fun vs H Q _=>∃ (x:Int) (n:Nat),vs=[.int x,.int n]/\n <= 1000/\Q (.bl (decide (0 <= x/\x < ((2 ^ n:Nat):Int)))) H
def sp_is_row (K:PySem.W.Frag):Sp:=fun vs H Q _=>∃ (a:Addr) (n:Nat) (r:Row),vs=[.ref a,.int n]/\H a=some (.tup r.V)/\r.Ok n/\n <= 40/\∀ H',a2c H H'->Q (.bl true) H'
def bsd (rs:List Row)(k:Nat):Bool:=((rs.take k).map fun s=>!a4s (rs.getD k ⟨0,0,0⟩) s).all id
def allB (rs:List Row):Bool:=((List.range rs.length).map (bsd rs)).all id
def c2z (K:PySem.W.Frag):Sp:=fun vs H Q _=>∃ (l:Addr) (as:List Addr) (rs:List Row),vs=[.ref l]/\H l=some (.lst (refs as))/\a6h (Rt K H) as rs/\as.length <= 100/\∀ H',a2c H H'->Q (.bl (allB rs)) H'
def c6a (K:PySem.W.Frag):Sp:=fun vs H Q _=>∃ (l:Addr) (us:List Nat),vs=[.ref l]/\H l=some (.lst (vn us))/\us.length <= 100/\∀ H' ss,a2c H H'->SpOk us ss->ss.length <= us.length->Q (.bl (decide (ss.length=us.length))) H'
def d0n (K:PySem.W.Frag):Sp:=fun vs H Q _=>∃ (a:Addr) (s n:Nat) (r:Row),vs=[.ref a,.int s,.int n]/\SqT K H a r.V/\r.Ok n/\n <= 40/\Q (.bl ((sn n r).testBit s)) H
def b7t (K:PySem.W.Frag):Sp:=fun vs H Q _=>∃ (l a:Addr) (s n:Nat) (as:List Addr) (rs:List Row) (g:Row),vs=[.ref l,.int s,.ref a,.int n]/\H l=some (.lst (refs as))/\a6h (Rt K H) as rs/\as.length <= 100/\Rt K H a g/\(∀ r ∈ rs,r.Ok n/\a4s r g=false)/\n <= 40/\∀ p H' bs,a2c H H'->H p=none->H' p=some (.lst (refs bs))->a6h (Rt K H') bs (rs.map (stp n s g))->Q (.ref p) H'
theorem a8a.stay {v:V}{t:Value}(s:a2c H H')(h:a8a K H v t):a8a K H' v t:=by
 cases h with
 | non=>exact .non
 | bl x=>exact .bl x
 | int i=>exact .int i
 | str x=>exact .str x
 | flt x=>exact .flt x
 | lst e=>exact .lst (s _ _ e)
 | frz e=>exact .frz (s _ _ e)
 | tup e=>exact .tup (s _ _ e)
 | dK e=>exact .dK (s _ _ e)
 | dT e=>exact .dT (s _ _ e)
 | ins e cl ha hn htk hm=>exact .ins (s _ _ e) cl ha hn htk hm
def k8:Nat->DK
 | 0=>.over | 1=>.quarter | 2=>.back | 3=>.both | 4=>.both | 5=>.wher | 6=>.wher | _=>.swap
theorem refs_at {a:Addr}(h:as[i]? = some a):(refs as)[i]? = some (.ref a):=by unfold refs; rw [List.getElem?_map,h]; rfl
theorem vn_at {l:List Nat}{x:V}(h:(vn l)[i]? = some x):∃ k:Nat,x=.int k/\l[i]? = some k:=by
 unfold vn at h;rw [List.getElem?_map] at h
 cases e:l[i]? with
 | none=>rw [e] at h; cases h
 | some k=>rw [e] at h; exact ⟨k,(Option.some.inj h).symm,rfl⟩
theorem Row.Ok.to40 {n:Nat}(h:r.Ok n)(hn:n <= 40):r.Ok 40:=⟨h.m,Nat.lt_of_lt_of_le h.x (Nat.pow_le_pow_right (by decide) hn),Nat.lt_of_lt_of_le h.z (Nat.pow_le_pow_right (by decide) hn)⟩
theorem d8v:∀ (a:List Sm) (s:Sm) (l w:Nat),red (a ++ [s]) l w=if (red a l w).1.testBit s.j=true then ((red a l w).1 ^^^ s.t,(red a l w).2 ^^^ s.p) else red a l w
 | [],s,l,w=>by
  show (if l.testBit s.j=true then (l ^^^ s.t,w ^^^ s.p) else (l,w)) = _;rfl
 | u :: a,s,l,w=>by
  rw [List.cons_append];unfold red
  split
  ·exact d8v a s _ _
  ·exact d8v a s _ _
theorem red_at {s:Sm}(x w:Nat)(h:ss[i]? = some s):red (ss.take (i + 1)) x w=if (red (ss.take i) x w).1.testBit s.j=true then ((red (ss.take i) x w).1 ^^^ s.t,(red (ss.take i) x w).2 ^^^ s.p) else red (ss.take i) x w:=by
 rw [a1g h,d8v]
theorem and_pow_ne (l j:Nat):(((l &&& 2 ^ j:Nat):Int) = 0) = (l.testBit j=false):=by
 rw [and_pow];cases l.testBit j
 ·simp
 ·have h:=Nat.two_pow_pos j;apply propext
  constructor
  ·intro z;rw [Bool.toNat_true,Nat.one_mul] at z;omega
  ·intro z;cases z
theorem d0f (l:Addr)(t:Int):(b4p l t).lookup ("sums":Str) = some (.ref l):=rfl
theorem d5q (l:Addr)(t:Int):(b4p l t).lookup ("taken":Str) = some (.int t):=by
 have h1:(("taken":Str) == "sums") = false:=by decide +kernel
 unfold b4p;rw [List.lookup_cons,h1];rfl
theorem c9y (l:Addr)(t:Int){m:Str}(h1:(m == "sums") = false)(h2:(m == "taken") = false):(b4p l t).lookup m=none:=by
 unfold b4p;rw [List.lookup_cons,h1,List.lookup_cons,h2];rfl
theorem taken_put (l:Addr)(t u:Int):c5j "taken" (.int u) (b4p l t) = b4p l u:=by
 have h1:¬ (("sums":Str) = "taken"):=by decide +kernel
 simp only [b4p,c5j,if_neg h1];rfl
theorem first_put (l:Addr)(t:Int):c5j "taken" (.int t) (c5j "sums" (.ref l) []) = b4p l t:=by
 have h1:¬ (("sums":Str) = "taken"):=by decide +kernel
 simp only [b4p,c5j,if_neg h1]
theorem or_sn {x z n:Nat}(h:x < 2 ^ n):x ||| z * 2 ^ n=x ^^^ z * 2 ^ n:=by
 have h3:x &&& z * 2 ^ n=0:=by
  apply Nat.eq_of_testBit_eq;intro i;rw [Nat.testBit_and,<- Nat.shiftLeft_eq,Nat.testBit_shiftLeft,Nat.zero_testBit]
  rcases Nat.lt_or_ge i n with hi | hi
  ·simp [Nat.not_le.2 hi]
  ·rw [Nat.testBit_lt_two_pow (Nat.lt_of_lt_of_le h (Nat.pow_le_pow_right (by decide) hi))];rfl
 have:=b5h x (z * 2 ^ n);omega
theorem bes_dec (r q:Row):decide (pop (crs r q) % 2=0) = !a4s r q:=by
 unfold crs;have h:=b3f r q;cases e:a4s r q
 ·rw [decide_eq_true (h.1 e)]; rfl
 ·rw [decide_eq_false fun z=>by rw [h.2 z] at e; cases e]; rfl
theorem xsel_mod:∀ (vs:List Nat) (m:Nat),a5g vs (m % 2 ^ vs.length) = a5g vs m
 | [],_=>rfl
 | v :: vs,m=>by
  show (if (m % 2 ^ (vs.length + 1)).testBit 0=true then v else 0) ^^^ a5g vs (m % 2 ^ (vs.length + 1) / 2) = (if m.testBit 0=true then v else 0) ^^^ a5g vs (m / 2);have h1:(m % 2 ^ (vs.length + 1)).testBit 0=m.testBit 0:=by rw [Nat.testBit_mod_two_pow]; simp
  have h2:m % 2 ^ (vs.length + 1) / 2=(m / 2) % 2 ^ vs.length:=by
   rw [Nat.pow_succ,Nat.mul_comm,Nat.mod_mul_right_div_self]
  rw [h1,h2,xsel_mod vs]
theorem Tot.spn {x:Nat}(h:Tot ss x):Spn (ss.map Sm.t) x:=by
 obtain ⟨m,rfl⟩:=h;exact ⟨m % 2 ^ (ss.map Sm.t).length,Nat.mod_lt _ (Nat.two_pow_pos _),xsel_mod _ _⟩
theorem all_rep:∀ i:Nat,(List.replicate i true).all id=true
 | 0=>rfl
 | i + 1=>by rw [List.replicate_succ,List.all_cons,all_rep i]; rfl
theorem st_neRL {a:Addr}{bs:List Addr}{ss:List Row}(ha:SqL K H a (refs as))(hb:SqL K H b (refs bs))(h1:a6h (Rt K H) as rs)(h2:a6h (Rt K H) bs ss)(q:∀ c:Bool,(c=true ↔ rs ≠ ss)->Q (.bl c) H):rNeD K (.ref a) (.ref b) H Q:=
 ⟨_,_,.lst ha (dvs_rw h1),.lst hb (dvs_rw h2),shaped_rw rs,shaped_rw ss,q _ (by
  have e:=rows_eqv rs ss;rw [PyData.eqv]
  cases h:PyData.eqvAll (rs.map rD) (ss.map rD) with
  | true=>rw [h] at e; have:=e.1 rfl; simp [this]
  | false=>rw [h] at e; simp; intro z; have:=e.2 z; cases this)⟩
theorem allB_true (h:∀ r ∈ rs,∀ s ∈ rs,a4s r s=false):allB rs=true:=by
 unfold allB;rw [List.all_eq_true];intro b hb;obtain ⟨k,hk,rfl⟩:=List.mem_map.1 hb;have hk':=List.mem_range.1 hk;show bsd rs k=true;unfold bsd;rw [List.all_eq_true];intro c hc;obtain ⟨s,hs,rfl⟩:=List.mem_map.1 hc;have e:rs.getD k ⟨0,0,0⟩ = rs[k]:=by rw [List.getD_eq_getElem?_getD,List.getElem?_eq_getElem hk']; rfl
 show (!a4s (rs.getD k ⟨0,0,0⟩) s) = true;rw [e,h _ (List.getElem_mem _) s (List.mem_of_mem_take hs)];rfl
theorem at4b (m:Nat)(a b c d:Nat):∃ x:Nat,atI [V.int (a:Int),.int (b:Int),.int (c:Int),.int (d:Int)] ((m:Int) % 4) = some (.int (x:Int))/\x ∈ [a,b,c,d]:=by
 have h:m % 4 < 4:=Nat.mod_lt _ (by decide);have e:((m:Int) % 4) = ((m % 4:Nat):Int):=by omega
 rw [e];generalize m % 4=r at h ⊢
 match r,h with
 | 0,_=>exact ⟨a,rfl,by simp⟩
 | 1,_=>exact ⟨b,rfl,by simp⟩
 | 2,_=>exact ⟨c,rfl,by simp⟩
 | 3,_=>exact ⟨d,rfl,by simp⟩
inductive Odd (K:PySem.W.Frag) (H:Hp) (n:Nat):V->Prop
 | kind {v t} (h:a8a K H v t) (k:PySem.W.kitOne K t (.type "tuple") = some false):Odd K H n v
 | len {a xs} (h:H a=some (.tup xs)) (l:xs.length ≠ 3) (m:xs.length <= 1000):Odd K H n (.ref a)
 | part {a x y z bx b_y bz} (h:H a=some (.tup [x,y,z])) (hx:WN K H x bx) (hy:WN K H y b_y) (hz:WN K H z bz) (nb:(bx && b_y && bz) = false):Odd K H n (.ref a)
 | nums {a} {m x z:Int} (h:H a=some (.tup [.int m,.int x,.int z])) (nb:¬ ((m=0\/m=1)/\(0 <= x/\x < ((2 ^ n:Nat):Int))/\(0 <= z/\z < ((2 ^ n:Nat):Int)))):Odd K H n (.ref a)
def Fit (n:Nat)(m x z:Int):Prop:=(m=0\/m=1)/\(0 <= x/\x < ((2 ^ n:Nat):Int))/\(0 <= z/\z < ((2 ^ n:Nat):Int))
theorem rows_cases {n:Nat}{v:V}{QQ:Addr->Prop}{EE:Prop}(h:(∃ (a:Addr) (r:Row),v=.ref a/\H a=some (.tup r.V)/\r.Ok n/\QQ a)\/(Odd K H n v/\EE)) :
  (∃ t,a8a K H v t/\PySem.W.kitOne K t (.type "tuple") = some false/\EE)\/(∃ a xs,v=.ref a/\H a=some (.tup xs)/\xs.length ≠ 3/\xs.length <= 1000/\EE)\/
  (∃ a x y z bx b_y bz,v=.ref a/\H a=some (.tup [x,y,z])/\WN K H x bx/\WN K H y b_y/\WN K H z bz/\(((bx && b_y && bz) = false/\EE)\/((bx && b_y && bz) = true/\∃ m xx zz:Int,x=.int m/\y=.int xx/\z=.int zz/\(Fit n m xx zz->QQ a)/\(¬ Fit n m xx zz->EE)))):=by
 rcases h with ⟨a,r,rfl,ha,ok,q⟩ | ⟨o,e⟩
 ·refine .inr (.inr ⟨a,.int r.m,.int r.x,.int r.z,true,true,true,rfl,ha,WN.int _ _ _,WN.int _ _ _,WN.int _ _ _,.inr ⟨rfl,_,_,_,rfl,rfl,rfl,fun _=>q,fun c=>(c ?_).elim⟩⟩);have h1:=ok.m;have h2:=ok.x;have h3:=ok.z;exact ⟨by omega,by omega,by omega⟩
 ·cases o with
  | kind h k=>exact .inl ⟨_,h,k,e⟩
  | len h l m=>exact .inr (.inl ⟨_,_,rfl,h,l,m,e⟩)
  | part h hx hy hz nb=>exact .inr (.inr ⟨_,_,_,_,_,_,_,rfl,h,hx,hy,hz,.inl ⟨nb,e⟩⟩)
  | nums h nb=>exact .inr (.inr ⟨_,_,_,_,true,true,true,rfl,h,WN.int _ _ _,WN.int _ _ _,WN.int _ _ _,.inr ⟨rfl,_,_,_,rfl,rfl,rfl,fun c=>(nb c).elim,fun _=>e⟩⟩)
def c0m (K:PySem.W.Frag)(C:Addr):Sp:=fun vs H Q E=>∃ v n,vs=[v,.int ((n:Nat):Int)]/\n <= 1000/\
 ((∃ (a:Addr) (r:Row),v=.ref a/\H a=some (.tup r.V)/\r.Ok n/\∀ H',a2c H H'->Q (.ref a) H')\/(Odd K H n v/\∀ H',a2c H H'->E (.ref C) none H'))
def c6k (K:PySem.W.Frag):Sp:=fun vs H Q _=>∃ (a:Addr) (r:Row),vs=[.ref a]/\SqT K H a r.V/\Q (.int (pop (r.x ||| r.z):Nat)) H
def BadL (K:PySem.W.Frag)(H:Hp)(n:Nat)(v:V)(C1 C2 C:Addr):Prop:=(C=C1/\Odd K H n v)\/(C=C2/\∃ (a:Addr) (r:Row),v=.ref a/\H a=some (.tup r.V)/\r.Ok n/\(r.m=1\/(r.x=0/\r.z=0)))
def Mn (CM:MK->Addr)(H:Hp)(x:Addr)(n:Nat):Prop:=(∃ dx a,H x=some (.ins (CM .ex) dx [("n",.int (n:Int)),("amounts",.ref a)]))\/∃ dx a,H x=some (.ins (CM .sg) dx [("n",.int (n:Int)),("kept",.ref a)])
def BadN (K:PySem.W.Frag)(H:Hp)(m:Nat)(v:V):Prop:=WN K H v false\/∃ i:Int,v=.int i/\(i < 1\/(m:Int) < i)
def a7g (K:PySem.W.Frag)(CM:MK->Addr)(C:Addr):Sp:=fun vs H Q E=>∃ (p:Addr) (v:V) (m:Nat) (k:MK),vs=[.ref p,v,.int m]/\∃ dx,H p=some (.ins (CM k) dx [])/\
 ((∃ n:Nat,v=.int n/\1 <= n/\n <= m/\Q .non (upd H p (.ins (CM k) dx [("n",.int n)])))\/(BadN K H m v/\∀ H',a2c H H'->E (.ref C) none H'))
def a8s (K:PySem.W.Frag)(CM:MK->Addr)(C:Addr):Sp:=fun vs H Q E=>∃ (p:Addr) (v:V),vs=[.ref p,v]/\∃ dx,H p=some (.ins (CM .ex) dx [])/\
 ((∃ n:Nat,v=.int n/\1 <= n/\n <= 6/\∀ a H',But p H H'->H a=none->d5v CM H' p n a->a9d K H' a [(0,(1,0))]->Q .non H')\/(BadN K H 6 v/\∀ H',a2c H H'->E (.ref C) none H'))
def a9a (K:PySem.W.Frag)(CM:MK->Addr)(C:Addr):Sp:=fun vs H Q E=>∃ (p:Addr) (v:V),vs=[.ref p,v]/\∃ dx,H p=some (.ins (CM .sg) dx [])/\
 ((∃ n:Nat,v=.int n/\1 <= n/\n <= 40/\∀ H',But p H H'->d2u K CM H' p n (starts n)->Q .non H')\/(BadN K H 40 v/\∀ H',a2c H H'->E (.ref C) none H'))
def BadD (K:PySem.W.Frag)(H:Hp)(n:Nat)(v:V)(C1 C2 C:Addr):Prop:=(C=C1/\NoW K H v)\/(C=C2/\∃ a k is,v=.ref a/\WdAt H a k is/\¬ ∀ i ∈ is,0 <= i/\i < (n:Int))
def c2k (K:PySem.W.Frag)(CD:DK->Addr)(CM:MK->Addr)(T1 T2 T3 T4 C1 C2:Addr):Sp:=fun vs H Q E=>∃ (x:Addr) (v:V) (n:Nat),vs=[.ref x,v]/\n <= 6/\
 ((∃ (w:Addr) (d:Dd),v=.ref w/\H w=some (.tup (.str d.k.word :: vn d.w))/\d.Ok n/\
  ((∃ a ws,d5v CM H x n a/\a9d K H a ws/\(ws.map (·.1)).Nodup/\ws.length <= 90/\d1j T1 T2 T3 T4 H/\∀ p H',d5p x H H'->d1j T1 T2 T3 T4 H'->H p=none->d5v CM H' x n p->a9d K H' p (wnz (b2b d ws))->Q .non H')\/
   (∃ rs,d2u K CM H x n rs/\rs.length <= 10/\∀ H',But x H H'->d2u K CM H' x n (rs.map (act d))->Q .non H')))\/
  (Mn CM H x n/\∃ C,BadD K H n v C1 C2 C/\∀ H',a2c H H'->E (.ref C) none H'))
abbrev sp_M_do (K:PySem.W.Frag)(CD:DK->Addr)(CM:MK->Addr)(T1 T2 T3 T4 C1 C2:Addr)(_:MK):Sp:=c2k K CD CM T1 T2 T3 T4 C1 C2
def c5q (K:PySem.W.Frag):Sp:=fun vs H Q _=>∃ (c:Int) (k n:Nat),vs=[.int c,.int k,.int n]/\k <= 90/\n <= 40/\∀ m:Nat,m < 2 ^ n->Q (.int m) H
def c2d (K:PySem.W.Frag):Sp:=fun vs H Q _=>∃ (c:Int) (n:Nat),vs=[.int c,.int n]/\0 < n/\n <= 40/\∀ p H' (x z:Nat),a2c H H'->H' p=some (.tup [.int x,.int z])->x < 2 ^ n/\z < 2 ^ n/\(x ≠ 0\/z ≠ 0)->Q (.ref p) H'
theorem WN.stay {K:PySem.W.Frag}{H H':Hp}{v:V}{b:Bool}(h:WN K H v b)(s:a2c H H'):WN K H' v b:=by
 obtain ⟨t,b1,b2,ty,e⟩:=h;exact ⟨t,b1,b2,a8a.stay s ty,e⟩
theorem NoW.sameW {a:Addr}{k:DK}{i:Int}(h:H a=some (.tup [.str w,.int i,.int i]))(hw:w=k.word)(e:k.n=2):NoW K H (.ref a):=by
 subst hw;exact .same h e
theorem WdAt.mk1 {a:Addr}{k:DK}{i:Int}(h:H a=some (.tup [.str w,.int i]))(hw:w=k.word)(e:k.n=1):WdAt H a k [i]:=by
 subst hw;exact ⟨h,e.symm,by simp⟩
theorem WdAt.mk2 {a:Addr}{k:DK}{i j:Int}(h:H a=some (.tup [.str w,.int i,.int j]))(hw:w=k.word)(e:k.n=2)(ne:¬ i=j):WdAt H a k [i,j]:=by
 subst hw;exact ⟨h,e.symm,by simp [ne]⟩
theorem st_ixOdd {a:Addr}{k:Nat}{xs:List V}{R:V->Hp->Prop}(s:SqL K H a xs)(hk:k < xs.length)(hr:∀ v ∈ xs,R v H)(q:∀ v,R v H->Q v H):rIxL K (.ref a) (.int (k:Int)) H Q:=
 b6f s (b2d (List.getElem?_eq_getElem hk)) (q _ (hr _ (List.getElem_mem hk)))
theorem st_modL {m:Int}{xs:List V}(h:xs.length=L)(h0:0 < L)(q:∀ j:Nat,j < L->Q (.int (j:Int)) H):rI (fun _ j=>0 < j) (fun i j=>V.int (i % j)) (.int m) (.int ((xs.length:Nat):Int)) H Q:=by
 subst h;obtain ⟨j,ej,hj⟩:=b9c m h0;refine ⟨m,_,rfl,rfl,by omega,?_⟩;show Q (V.int (m % ((xs.length:Nat):Int))) H;rw [ej];exact q j hj
theorem st_modG {m:Int}{xs:List V}(R:Hp->Prop)(h:xs.length=L)(h0:0 < L)(hR:R H)(q:∀ (G:Hp) (j:Nat),R G->j < L->Q (.int (j:Int)) G):rI (fun _ j=>0 < j) (fun i j=>V.int (i % j)) (.int m) (.int ((xs.length:Nat):Int)) H Q:=st_modL h h0 fun j hj=>q H j hR hj
theorem NoW.stay {K:PySem.W.Frag}{H H':Hp}{v:V}(h:NoW K H v)(s:a2c H H'):NoW K H' v:=by
 cases h with
 | kind ty k=>exact .kind (a8a.stay s ty) k
 | empty h=>exact .empty (s _ _ h)
 | first h f m=>exact .first (s _ _ h) f m
 | word h e fs f m=>exact .word (s _ _ h) e fs f m
 | len h l f m=>exact .len (s _ _ h) l f m
 | part h l f e=>exact .part (s _ _ h) l f e
 | same h e=>exact .same (s _ _ h) e
theorem mth_Mn {CM:MK->Addr}{x:Addr}{n:Nat}{m:Str}{R:MK->Prop}(h:Mn CM H x n)(l:∀ a:Addr,([("n",V.int (n:Int)),("amounts",V.ref a)]:List (Str × V)).lookup m=none/\([("n",V.int (n:Int)),("kept",V.ref a)]:List (Str × V)).lookup m=none)(q:∀ d,R d):rMeth CM m (.ref x) H R:=by
 rcases h with ⟨dx,a,hx⟩ | ⟨dx,a,hx⟩
 ·exact a5z hx (l a).1 (q _)
 ·exact a5z hx (l a).2 (q _)
theorem Mn.stay {CM:MK->Addr}{x:Addr}{n:Nat}(h:Mn CM H x n)(s:a2c H H'):Mn CM H' x n:=by
 rcases h with ⟨dx,a,hx⟩ | ⟨dx,a,hx⟩
 ·exact .inl ⟨dx,a,s _ _ hx⟩
 ·exact .inr ⟨dx,a,s _ _ hx⟩
theorem a8a.stayT {v:V}{t:Value}(h:a8a K H v t)(s:b5f H H'):a8a K H' v t:=by
 cases h with
 | non=>exact .non
 | bl x=>exact .bl x
 | int x=>exact .int x
 | str x=>exact .str x
 | flt x=>exact .flt x
 | lst e=>exact .lst (s _ _ e (fun _ z=>nomatch z))
 | frz e=>exact .frz (s _ _ e (fun _ z=>nomatch z))
 | tup e=>exact .tup (s _ _ e (fun _ z=>nomatch z))
 | dK e=>exact .dK (s _ _ e (fun _ z=>nomatch z))
 | dT e=>exact .dT (s _ _ e (fun _ z=>nomatch z))
 | ins e c1 c2 c3 c4 c5=>exact .ins (s _ _ e (fun _ z=>nomatch z)) c1 c2 c3 c4 c5
theorem WN.stayT {K:PySem.W.Frag}{H H':Hp}{v:V}{b:Bool}(h:WN K H v b)(s:b5f H H'):WN K H' v b:=by
 obtain ⟨t,b1,b2,ty,e⟩:=h;exact ⟨t,b1,b2,a8a.stayT ty s,e⟩
theorem RL.refs {K:PySem.W.Frag}{H:Hp}{rs:List Row}{xs:List V}(h:RL K H rs xs):∃ as,xs=refs as/\a6h (Rt K H) as rs:=by
 induction h with
 | nil=>exact ⟨[],rfl,.nil⟩
 | @cons r t rs xs q _ ih=>
  obtain ⟨as,e,h⟩:=ih;exact ⟨t :: as,by rw [e]; rfl,.cons q h⟩
theorem d2u.stayT {CM:MK->Addr}{x:Addr}{n:Nat}(h:d2u K CM H x n rs)(s:b5f H H'):d2u K CM H' x n rs:=by
 obtain ⟨dx,a,xs,h1,h2,h3⟩:=h;exact ⟨dx,a,xs,s _ _ h1 (by intro ps z; cases z),s _ _ h2 (by intro ps z; cases z),h3.stay fun y ys q=>s _ _ q (by intro ps z; cases z)⟩
theorem d5v.stayT {CM:MK->Addr}{x:Addr}{n:Nat}{a:Addr}(h:d5v CM H x n a)(s:b5f H H'):d5v CM H' x n a:=by
 obtain ⟨dx,e⟩:=h;exact ⟨dx,s _ _ e (by intro ps z; cases z)⟩
theorem rts_stayT (h:a6h (Rt K H) as rs)(s:b5f H H'):a6h (Rt K H') as rs:=h.mono fun a r e=>s _ _ e (by intro ps z; cases z)
theorem adds_nd:∀ (es acc:Wh),(acc.map (·.1)).Nodup->((d4j acc es).map (·.1)).Nodup
 | [],_,h=>h
 | e :: es,acc,h=>adds_nd es (wadd acc e.1 e.2) (wadd_nd h)
theorem adds_step {A W:Wh}(h:W[i]? = some e):d4j A (W.take (i + 1)) = wadd (d4j A (W.take i)) e.1 e.2:=by
 unfold d4j;rw [List.take_succ,h];exact List.foldl_append
def half (r:Row)(ws:Wh):Wh:=wnz (d4j ws (ws.map (tE r)))
theorem Wn.half {r:Row}{n:Nat}{ws:Wh}(h:Wn n ws)(ok:r.x < 2 ^ n):Wn n (Tw.half r ws) where
 nd:=wnz_nd (adds_nd _ _ h.nd)
 nz:=fun e he=>by
  unfold Tw.half wnz at he;exact of_decide_eq_true (List.mem_filter.mp he).2
 lt:=fun e he=>by
  unfold Tw.half wnz at he;refine adds_lt _ h.lt (fun e he=>?_) e (List.mem_filter.mp he).1;obtain ⟨e',he',rfl⟩:=List.mem_map.mp he;exact Nat.xor_lt_two_pow (h.lt e' he') ok
def sp_added (K:PySem.W.Frag):Sp:=fun vs H Q _=>∃ (a b:Addr) (W O:Wh),vs=[.ref a,.ref b]/\a9d K H a W/\a9d K H b O/\(W.map (·.1)).Nodup/\W.length <= 90/\O.length <= 90/\∀ p H',a2c H H'->H p=none->a9d K H' p (wnz (d4j W O))->Q (.ref p) H'
def d1k (K:PySem.W.Frag):Sp:=fun vs H Q _=>∃ (a w:Addr) (ws:Wh) (r:Row),vs=[.ref a,.ref w]/\a9d K H a ws/\(ws.map (·.1)).Nodup/\ws.length <= 100/\SqT K H w r.V/\∀ p H',a2c H H'->H p=none->a9d K H' p (ws.map (tE r))->Q (.ref p) H'
def d4t (K:PySem.W.Frag):Sp:=fun vs H Q _=>∃ (a w:Addr) (v:Nat) (ws:Wh) (r:Row),vs=[.ref a,.ref w,.int v]/\a9d K H a ws/\(ws.map (·.1)).Nodup/\ws.length <= 90/\SqT K H w r.V/\∀ p H',a2c H H'->H p=none->a9d K H' p (half ⟨r.m ^^^ v,r.x,r.z⟩ ws)->Q (.ref p) H'
def sp_places (K:PySem.W.Frag):Sp:=fun vs H Q _=>∃ n:Nat,vs=[.int n]/\n < 2 ^ 100/\∀ p,H p=none->Q (.ref p) (upd H p (.lst (vn (pls n))))
def b6d (K:PySem.W.Frag)(CD:SK->Addr):Sp:=fun vs H Q _=>∃ (p l:Addr) (x:Nat) (us:List Nat) (ss:List Sm),vs=[.ref p,.int x]/\SnAt CD H p l us ss/\us.length <= 100/\∀ H',a2c H H'->((red ss x 0).1=0->Q (.int ((red ss x 0).2:Int)) H')/\((red ss x 0).1 ≠ 0->Q .non H')
abbrev c3w (K:PySem.W.Frag)(CD:SK->Addr)(_:SK):Sp:=b6d K CD
def c2e (K:PySem.W.Frag):Sp:=fun vs H Q _=>∃ (l:Addr) (as:List Addr) (us:List Row),vs=[.ref l]/\H l=some (.lst (refs as))/\a6h (Rt K H) as us/\as.length <= 200/\(∀ i r,us[i]? = some r->a4s (pr (us.take i)) r=false)/\∀ p H',a2c H H'->H' p=some (.tup (pr us).V)->Q (.ref p) H'
def sp_widest (K:PySem.W.Frag):Sp:=fun vs H Q _=>∃ (l:Addr) (as:List Addr) (rs:List Row),vs=[.ref l]/\H l=some (.lst (refs as))/\a6h (Rt K H) as rs/\as.length <= 100/\0 < as.length/\(∀ r ∈ rs,r.Ok 40)/\∀ (w:Nat) H',a2c H H'->w <= 40->(∀ r ∈ rs,r.x < 2 ^ w/\r.z < 2 ^ w)->Q (.int (w:Int)) H'
def d5c (K:PySem.W.Frag):Sp:=fun vs H Q _=>∃ (l a:Addr) (as:List Addr) (rs:List Row) (o:Row),vs=[.ref l,.ref a]/\H l=some (.lst (refs as))/\a6h (Rt K H) as rs/\as.length <= 40/\H a=some (.tup o.V)/\(∀ r ∈ rs,r.Ok 40)/\o.Ok 40/\(∀ r ∈ rs,∀ s ∈ rs,a4s r s=false)/\
 ∀ H',a2c H H'->((∀ m,¬ Lsel rs m o)->Q .non H')/\∀ m p q,m < 2 ^ rs.length->Lsel rs m o->H' q=some (.lst (vn (plc m rs.length)))->H' p=some (.tup [.ref q,.int (((pr (pk rs (plc m rs.length))).m ^^^ o.m:Nat):Int)])->Q (.ref p) H'
def Mg (K:PySem.W.Frag)(CM:MK->Addr)(H:Hp)(x:Addr)(n:Nat):Prop:=(∃ a ws,d5v CM H x n a/\a9d K H a ws/\Wn n ws)\/∃ rs,d2u K CM H x n rs/\Kept n rs
theorem Mg.mn {CM:MK->Addr}{x:Addr}{n:Nat}(h:Mg K CM H x n):Mn CM H x n:=by
 rcases h with ⟨a,ws,⟨dx,e⟩,_⟩ | ⟨rs,⟨dx,a,xs,e,_⟩,_⟩
 ·exact .inl ⟨dx,a,e⟩
 ·exact .inr ⟨dx,a,e⟩
theorem Mg.stay {K:PySem.W.Frag}{CM:MK->Addr}{H H':Hp}{x:Addr}{n:Nat}(h:Mg K CM H x n)(s:a2c H H'):Mg K CM H' x n:=by
 rcases h with ⟨a,ws,h1,h2,h3⟩ | ⟨rs,h1,h2⟩
 ·exact .inl ⟨a,ws,h1.stay s,h2.stay s,h3⟩
 ·exact .inr ⟨rs,h1.stay s,h2⟩
theorem rl_of (h:a6h (Rt K H) as rs):RL K H rs (refs as):=by
 induction h with
 | nil=>exact .nil
 | cons e _ ih=>exact .cons e ih
theorem eq_nil {a:Addr}(h:a9d K H a ws)(hb:H b=some (.dK []))(nd:(ws.map (·.1)).Nodup)(q:∀ c,Q (.bl c) H):rEqM false K (.ref a) (.ref b) H Q:=by
 obtain ⟨kvs,ha,h⟩:=h;exact st_eqM (.inl ha) (.inl hb) (h.dv nd) (g:=fun _=>.none) (fun _ _ z=>nomatch z) (q _)
theorem iteB {c:Bool}{a b:Prop}(h1:c=true->a)(h2:c=false->b):if c=true then a else b:=by
 cases c
 ·exact h2 rfl
 ·exact h1 rfl
theorem pop_nil (n:Nat):pop n=0->n=0:=by
 induction n using Nat.strongRecOn with
 | ind n ih=>
  intro h
  by_cases z:n=0
  ·exact z
  ·rw [b5j] at h;have:=ih (n / 2) (pop_dec z) (by omega);omega
def b9x (K:PySem.W.Frag):Sp:=fun vs H Q _=>vs=[.non]/\True/\Q (.int 0) H
def b1u (K:PySem.W.Frag)(CM:MK->Addr):Sp:=fun vs H Q _=>∃ (x w a:Addr) (n:Nat) (ws:Wh) (r:Row),vs=[.ref x,.ref w]/\d5v CM H x n a/\a9d K H a ws/\Wn n ws/\n <= 6/\SqT K H w r.V/\r.Ok n/\∀ v H',a2c H H'->(v=.non\/∃ i:Int,v=.int i)->Q v H'
def b2m (K:PySem.W.Frag)(CM:MK->Addr):Sp:=fun vs H Q _=>∃ (x w:Addr) (n:Nat) (rs:List Row) (r:Row),vs=[.ref x,.ref w]/\d2u K CM H x n rs/\Kept n rs/\n <= 6/\H w=some (.tup r.V)/\r.Ok n/\∀ v H',a2c H H'->((v=.non/\∀ m,¬ Lsel rs m r)\/∃ i:Int,v=.int i)->Q v H'
def b8k (K:PySem.W.Frag)(CM:MK->Addr):Sp:=fun vs H Q _=>∃ (x w a:Addr) (n v:Nat) (ws:Wh) (r:Row),vs=[.ref x,.ref w,.int v]/\d5v CM H x n a/\a9d K H a ws/\Wn n ws/\n <= 6/\SqT K H w r.V/\r.Ok n/\∀ p H',But x H H'->d5v CM H' x n p->a9d K H' p (half ⟨r.m ^^^ v,r.x,r.z⟩ ws)->Q .non H'
def b7n (K:PySem.W.Frag)(CM:MK->Addr):Sp:=fun vs H Q _=>∃ (x w:Addr) (n v:Nat) (rs:List Row) (r c:Row) (cs:List Row),vs=[.ref x,.ref w,.int v]/\d2u K CM H x n rs/\Kept n rs/\n <= 6/\H w=some (.tup r.V)/\r.Ok n/\rs.filter (fun s=>a4s s r) = c :: cs/\∀ H',But x H H'->d2u K CM H' x n (rs.filter (fun s=>!a4s s r) ++ cs.map (tm c) ++ [⟨v,r.x,r.z⟩])->Q .non H'
abbrev b8d (K:PySem.W.Frag)(CM:MK->Addr):MK->Sp
 | .ex=>b1u K CM
 | .sg=>b2m K CM
abbrev d1m (K:PySem.W.Frag)(CM:MK->Addr):MK->Sp
 | .ex=>b8k K CM
 | .sg=>b7n K CM
def c2s (K:PySem.W.Frag)(C1 C2:Addr):Sp:=fun vs H Q E=>∃ (v:V) (n:Nat),vs=[v,.int n]/\n <= 1000/\
 ((∃ (a:Addr) (r:Row),v=.ref a/\H a=some (.tup r.V)/\r.Ok n/\r.m=0/\¬ (r.x=0/\r.z=0)/\∀ H',a2c H H'->Q .non H')\/∃ C,BadL K H n v C1 C2 C/\∀ H',a2c H H'->E (.ref C) none H')
def b7e (K:PySem.W.Frag)(CM:MK->Addr):Sp:=fun vs H Q E=>∃ (x w:Addr) (n:Nat) (r:Row),vs=[.ref x,.ref w,.non]/\Mg K CM H x n/\n <= 6/\H w=some (.tup r.V)/\r.Ok n/\r.m=0/\¬ (r.x=0/\r.z=0)/\∀ p u v H',But x H H'->Mg K CM H' x n->H' p=some (.tup [u,v])->Q (.ref p) H'
abbrev sp_M_look (K:PySem.W.Frag)(CM:MK->Addr)(_:MK):Sp:=b7e K CM
inductive Sp1 where
 | dd (d:Dd)
 | lk (x z:Nat)
def Sp1.V:Sp1->List V
 | .dd d=>.str d.k.word :: vn d.w
 | .lk x z=>[.str "look",.int x,.int z]
def Sp1.Ok (n:Nat):Sp1->Prop
 | .dd d=>d.Ok n
 | .lk x z=>x < 2 ^ n/\z < 2 ^ n/\¬ (x=0/\z=0)
def Sp1.isl:Sp1->Bool
 | .dd _=>false
 | .lk _ _=>true
inductive NoLk (K:PySem.W.Frag) (H:Hp):V->Prop
 | kind {v t} (h:a8a K H v t) (k:PySem.W.kitOne K t (.type "tuple") = some false):NoLk K H v
 | len {a xs} (h:H a=some (.tup xs)) (l:xs.length ≠ 3) (m:xs.length <= 1000):NoLk K H (.ref a)
 | word {a:Addr} {s:Str} {y z:V} (h:H a=some (.tup [.str s,y,z])) (ne:s ≠ "look"):NoLk K H (.ref a)
theorem NoLk.stay {K:PySem.W.Frag}{H H':Hp}{v:V}(h:NoLk K H v)(s:a2c H H'):NoLk K H' v:=by
 cases h with
 | kind h k=>exact .kind (a8a.stay s h) k
 | len h l m=>exact .len (s _ _ h) l m
 | word h ne=>exact .word (s _ _ h) ne
theorem NoLk.dd {K:PySem.W.Frag}{H:Hp}{a:Addr}{d:Dd}{n:Nat}(h:H a=some (.tup (Sp1.dd d).V))(ok:d.Ok n):NoLk K H (.ref a):=by
 have hl:=ok.len;obtain ⟨k,w⟩:=d;have h2:H a=some (.tup (.str k.word :: vn w)):=h
 match w,hl,h2 with
 | [],hl,_=>cases k <;> cases hl
 | [i],_,h2=>exact .len h2 (by show (2:Nat) ≠ 3; decide) (by show (2:Nat) <= 1000; decide)
 | [i,j],_,h2=>exact .word (y:=.int i) (z:=.int j) h2 (by cases k <;> decide +kernel)
 | _ :: _ :: _ :: _,hl,_=>cases k <;> cases hl
inductive d8f (K:PySem.W.Frag) (H:Hp) (n:Nat):V->Str->Prop
 | deed {v} (h:NoW K H v) (nl:NoLk K H v):d8f K H n v "deed"
 | wire {a k is} (h:WdAt H a k is) (nl:NoLk K H (.ref a)) (nr:¬ ∀ i ∈ is,0 <= i/\i < (n:Int)):d8f K H n (.ref a) "deed"
 | part {a y z b_y bz} (h:H a=some (.tup [.str "look",y,z])) (hy:WN K H y b_y) (hz:WN K H z bz) (nb:(b_y && bz) = false):d8f K H n (.ref a) "row"
 | nums {a} {x z:Int} (h:H a=some (.tup [.str "look",.int x,.int z])) (nb:¬ ((0 <= x/\x < ((2 ^ n:Nat):Int))/\(0 <= z/\z < ((2 ^ n:Nat):Int)))):d8f K H n (.ref a) "row"
 | zero {a} (h:H a=some (.tup [.str "look",.int 0,.int 0])):d8f K H n (.ref a) "look"
theorem d8f.stay {K:PySem.W.Frag}{H H':Hp}{n:Nat}{v:V}{d:Str}(h:d8f K H n v d)(s:a2c H H'):d8f K H' n v d:=by
 cases h with
 | deed h nl=>exact .deed (h.stay s) (nl.stay s)
 | wire h nl nr=>exact .wire ⟨s _ _ h.1,h.2⟩ (nl.stay s) nr
 | part h hy hz nb=>exact .part (s _ _ h) (WN.stay hy s) (WN.stay hz s) nb
 | nums h nb=>exact .nums (s _ _ h) nb
 | zero h=>exact .zero (s _ _ h)
def Why (C1 C2 C3 C4:Addr)(due:Str)(C:Addr):Prop:=(due= "deed"/\(C=C1\/C=C2))\/(due= "row"/\C=C3)\/(due= "look"/\C=C4)
def d5x (K:PySem.W.Frag):Sp:=fun vs H Q _=>∃ v,vs=[v]/\((∃ a y z,v=.ref a/\H a=some (.tup [.str "look",y,z])/\Q (.bl true) H)\/(NoLk K H v/\Q (.bl false) H))
def d2n (K:PySem.W.Frag):Sp:=fun vs H Q _=>∃ (a:Addr) (y z:V),vs=[.ref a]/\H a=some (.tup [.str "look",y,z])/\∀ p,H p=none->Q (.ref p) (upd H p (.tup [.int 0,y,z]))
def c3v (K:PySem.W.Frag)(C1 C2 C3 C4:Addr):Sp:=fun vs H Q E=>∃ (v:V) (n:Nat),vs=[v,.int n]/\n <= 6/\
 ((∃ (a:Addr) (s:Sp1),v=.ref a/\H a=some (.tup s.V)/\s.Ok n/\∀ H',a2c H H'->Q .non H')\/∃ due,d8f K H n v due/\∀ C H',a2c H H'->Why C1 C2 C3 C4 due C->E (.ref C) none H')
def d3b (H:Hp)(a:Addr)(s:Sp1):Prop:=H a=some (.tup s.V)
def b5t (K:PySem.W.Frag)(CM:MK->Addr)(T1 T2 T3 T4 C1 C2 C3 C4:Addr):Sp:=fun vs H Q E=>∃ (x l:Addr) (dv:V) (n:Nat),vs=[.ref x,.ref l,dv]/\Mg K CM H x n/\0 < n/\n <= 6/\
 ((∃ (us:List V) (i:Nat) (v:V) (due:Str),SqL K H l us/\us.length <= 100/\(∀ j u,j < i->us[j]? = some u->∃ a s,u=.ref a/\d3b H a s/\s.Ok n)/\us[i]? = some v/\d8f K H n v due/\∀ C H',a2c H H'->Why C1 C2 C3 C4 due C->E (.ref C) none H')\/
  (∃ (as:List Addr) (ss:List Sp1),dv=.non/\SqL K H l (refs as)/\as.length <= 100/\a6h (d3b H) as ss/\(∀ s ∈ ss,s.Ok n)/\d1j T1 T2 T3 T4 H/\
  ∀ p ts H',d5p x H H'->d1j T1 T2 T3 T4 H'->Mg K CM H' x n->H p=none->H' p=some (.lst (refs ts))->ts.length=(ss.filter Sp1.isl).length->(∀ t ∈ ts,∃ u v,H' t=some (.tup [u,v]))->Q (.ref p) H'))
theorem Mn.wires {CM:MK->Addr}{x:Addr}{n:Nat}(h:Mn CM H x n):∃ k dx fs,H x=some (.ins (CM k) dx (("n",.int (n:Int)) :: fs)):=by
 rcases h with ⟨dx,a,e⟩ | ⟨dx,a,e⟩
 ·exact ⟨.ex,dx,_,e⟩
 ·exact ⟨.sg,dx,_,e⟩
theorem butL_tup {xs:List V}(h:But f H H')(hf:H f=some (.lst xs)){a:Addr}{ys:List V}(s:SqT K H a ys):SqT K H' a ys:=by
 rcases s with (e | ⟨o,e⟩) | e
 ·exact .inl (.inl (h _ _ (fun z=>by rw [z,hf] at e; cases e) e))
 ·exact .inl (.inr ⟨o,h _ _ (fun z=>by rw [z,hf] at e; cases e) e⟩)
 ·exact .inr e
theorem Mg.app {CM:MK->Addr}{x:Addr}{n:Nat}{ts:List Addr}{xs:List V}(h:Mg K CM H x n)(h0:0 < n)(hp:H p=some (.lst (refs ts)))(ht:∀ t ∈ ts,∃ u v,H t=some (.tup [u,v])):Mg K CM (upd H p (.lst xs)) x n:=by
 have tup:∀ a ys,H a=some (.tup ys)->upd H p (.lst xs) a=some (.tup ys):=fun a ys e=>by rw [a0q fun z=>by rw [z,hp] at e; cases e]; exact e
 rcases h with ⟨a,ws,⟨dx,e⟩,⟨kv,hk,r⟩,wn⟩ | ⟨rs,⟨dx,a,ys,e,ha,hR⟩,kp⟩
 ·refine .inl ⟨a,ws,⟨dx,by rw [a0q fun z=>by rw [z,hp] at e; cases e]; exact e⟩,⟨kv,by rw [a0q fun z=>by rw [z,hp] at hk; cases hk]; exact hk,?_⟩,wn⟩;exact r.stay fun y ys s=>butL_tup (But.upd (f:=p)) hp s
 ·refine .inr ⟨rs,⟨dx,a,ys,by rw [a0q fun z=>by rw [z,hp] at e; cases e]; exact e,?_,hR.stay tup⟩,kp⟩;rw [a0q fun z=>?_]
  ·exact ha
  ·rw [z,hp] at ha;obtain rfl:refs ts=ys:=by cases ha; rfl
   have hl:=hR.len;rw [a1a,kp.len] at hl
   match ts,hl,hR,ht with
   | t :: ts,_,hR,ht=>
    cases hR with
    | cons q _=>
     obtain ⟨u,v,e2⟩:=ht t List.mem_cons_self;rw [q] at e2;cases e2
   | [],hl,_,_=>exact absurd hl (by show ¬ (0=n); omega)
theorem NoLk.stayT {K:PySem.W.Frag}{H H':Hp}{v:V}(h:NoLk K H v)(s:b5f H H'):NoLk K H' v:=by
 cases h with
 | kind h k=>exact .kind (a8a.stayT h s) k
 | len h l m=>exact .len (s _ _ h (fun _ z=>nomatch z)) l m
 | word h ne=>exact .word (s _ _ h (fun _ z=>nomatch z)) ne
theorem NoW.stayT {K:PySem.W.Frag}{H H':Hp}{v:V}(h:NoW K H v)(s:b5f H H'):NoW K H' v:=by
 cases h with
 | kind ty k=>exact .kind (a8a.stayT ty s) k
 | empty h=>exact .empty (s _ _ h (fun _ z=>nomatch z))
 | first h f m=>exact .first (s _ _ h (fun _ z=>nomatch z)) f m
 | word h e fs f m=>exact .word (s _ _ h (fun _ z=>nomatch z)) e fs f m
 | len h l f m=>exact .len (s _ _ h (fun _ z=>nomatch z)) l f m
 | part h l f e=>exact .part (s _ _ h (fun _ z=>nomatch z)) l f e
 | same h e=>exact .same (s _ _ h (fun _ z=>nomatch z)) e
theorem d8f.stayT {K:PySem.W.Frag}{H H':Hp}{n:Nat}{v:V}{d:Str}(h:d8f K H n v d)(s:b5f H H'):d8f K H' n v d:=by
 cases h with
 | deed h nl=>exact .deed (h.stayT s) (nl.stayT s)
 | wire h nl nr=>exact .wire ⟨s _ _ h.1 (fun _ z=>nomatch z),h.2⟩ (nl.stayT s) nr
 | part h hy hz nb=>exact .part (s _ _ h (fun _ z=>nomatch z)) (hy.stayT s) (hz.stayT s) nb
 | nums h nb=>exact .nums (s _ _ h (fun _ z=>nomatch z)) nb
 | zero h=>exact .zero (s _ _ h (fun _ z=>nomatch z))
theorem sqL_T (s:b5f H H'){a:Addr}{xs:List V}(h:SqL K H a xs):SqL K H' a xs:=by
 rcases h with (e | ⟨o,e⟩) | e
 ·exact .inl (.inl (s _ _ e (fun _ z=>nomatch z)))
 ·exact .inl (.inr ⟨o,s _ _ e (fun _ z=>nomatch z)⟩)
 ·exact .inr e
theorem whT (s:b5f H H'){a:Addr}(h:a9d K H a ws):a9d K H' a ws:=by
 obtain ⟨kv,e,r⟩:=h;exact ⟨kv,s _ _ e (fun _ z=>nomatch z),r.stay fun y ys q=>SqT.stayT s q⟩
theorem Mg.stayT {K:PySem.W.Frag}{CM:MK->Addr}{H H':Hp}{x:Addr}{n:Nat}(h:Mg K CM H x n)(s:b5f H H'):Mg K CM H' x n:=by
 rcases h with ⟨a,ws,h1,h2,h3⟩ | ⟨rs,h1,h2⟩
 ·exact .inl ⟨a,ws,h1.stayT s,whT s h2,h3⟩
 ·exact .inr ⟨rs,h1.stayT s,h2⟩
inductive It (H:Hp):V->PyData->Prop
 | tup {a xs} (h:H a=some (.tup xs)) (o:xs.all okV=true):It H (.ref a) (.tuple (xs.map dV))
 | lst {a xs} (h:H a=some (.lst xs)) (o:xs.all okV=true):It H (.ref a) (.list (xs.map dV))
 | non:It H .non .none
theorem It.stay {v:V}{d:PyData}(h:It H v d)(s:a2c H H'):It H' v d:=by
 cases h with
 | tup h o=>exact .tup (s _ _ h) o
 | lst h o=>exact .lst (s _ _ h) o
 | non=>exact .non
theorem dvs_it {K:PySem.W.Frag}{H:Hp}:∀ {vs:List V} {ds:List PyData},a6h (It H) vs ds->DVs K H vs ds
 | _,_,.nil=>.nil
 | _,_,.cons (.tup h o) t=>.cons (.tup (SqT.of h) (b9e o)) (dvs_it t)
 | _,_,.cons (.lst h o) t=>.cons (.lst (SqL.of h) (b9e o)) (dvs_it t)
 | _,_,.cons .non t=>.cons .non (dvs_it t)
theorem It.flat {v:V}{d:PyData}(h:It H v d):d.canLay0=true/\d.depth <= 1/\PyData.eqv d d=true:=by
 cases h with
 | tup h o=>exact ⟨by rw [PyData.canLay0]; exact d0x o,by simp only [PyData.depth,b7g]; omega,by rw [PyData.eqv,d9g]⟩
 | lst h o=>exact ⟨by rw [PyData.canLay0]; exact d0x o,by simp only [PyData.depth,b7g]; omega,by rw [PyData.eqv,d9g]⟩
 | non=>exact ⟨by rw [PyData.canLay0],by simp [PyData.depth],by simp [PyData.eqv]⟩
theorem its_flat {H:Hp}:∀ {vs:List V} {ds:List PyData},a6h (It H) vs ds->PyData.canLayAll0 ds=true/\PyData.depthAll ds <= 1/\PyData.eqvAll ds ds=true
 | _,_,.nil=>⟨rfl,by simp [PyData.depthAll],rfl⟩
 | _,_,.cons h t=>by
  obtain ⟨a,b,c⟩:=h.flat;obtain ⟨a2,b2,c2⟩:=its_flat t;exact ⟨by simp [PyData.canLayAll0,a,a2],by simp only [PyData.depthAll]; omega,by simp [PyData.eqvAll,c,c2]⟩
theorem st_neI {a:Addr}{vs:List V}{ds:List PyData}(ha:SqL K H a vs)(hb:SqL K H b vs)(h:a6h (It H) vs ds)(q:Q (.bl false) H):rNeD K (.ref a) (.ref b) H Q:=by
 obtain ⟨x,y,z⟩:=its_flat h
 have sh:SeqAt.shaped (.list ds) = true:=by
  unfold SeqAt.shaped;rw [PyData.canLay0,PyData.depth,x,Bool.true_and,decide_eq_true_eq];omega
 refine ⟨_,_,.lst ha (dvs_it h),.lst hb (dvs_it h),sh,sh,?_⟩;rw [PyData.eqv,z];exact q
theorem d3b.it {a:Addr}{s:Sp1}(h:d3b H a s):It H (.ref a) (.tuple (s.V.map dV)):=by
 refine .tup h ?_
 cases s with
 | dd d=>exact words_ok _ _
 | lk x z=>exact (by show ((PyData.strOk "look") && (true && (true && true))) = true; rw [show PyData.strOk "look" = true from a5f _]; rfl)
theorem d3b.its {H:Hp}:∀ {as:List Addr} {ss:List Sp1},a6h (d3b H) as ss->a6h (It H) (refs as) (ss.map fun s=>.tuple (s.V.map dV))
 | _,_,.nil=>.nil
 | _,_,.cons h t=>.cons (d3b.it h) (d3b.its t)
def b9w (H H':Hp):Prop:=(∀ c xs,H c=some (.tup xs)->H' c=some (.tup xs))/\∀ c xs,H c=some (.lst xs)->H' c=some (.lst xs)
theorem b9w.refl (H:Hp):b9w H H:=⟨fun _ _ e=>e,fun _ _ e=>e⟩
theorem b9w.trans {C:Hp}(a:b9w A B)(b:b9w B C):b9w A C:=⟨fun c xs e=>b.1 _ _ (a.1 _ _ e),fun c xs e=>b.2 _ _ (a.2 _ _ e)⟩
theorem same_d (s:a2c H H'):b9w H H':=⟨fun _ _ e=>s _ _ e,fun _ _ e=>s _ _ e⟩
theorem c5w {x:Addr}{fs:List (Str × V)}(s:d5p x H H')(hx:H x=some (.ins C dx fs)):b9w H H':=
 ⟨fun _ _ e=>s _ _ (fun z=>by rw [z,hx] at e; cases e) e (fun _ z=>nomatch z),fun _ _ e=>s _ _ (fun z=>by rw [z,hx] at e; cases e) e (fun _ z=>nomatch z)⟩
theorem It.d {H H':Hp}{v:V}{d:PyData}(h:It H v d)(s:b9w H H'):It H' v d:=by
 cases h with
 | tup h o=>exact .tup (s.1 _ _ h) o
 | lst h o=>exact .lst (s.2 _ _ h) o
 | non=>exact .non
theorem d5p.trans {x:Addr}{C:Hp}(a:d5p x A B)(b:d5p x B C):d5p x A C:=fun c o hc e nt=>b _ _ hc (a _ _ hc e nt) nt
theorem a9m {x:Addr}{C:Hp}(a:d5p x A B)(b:a2c B C):d5p x A C:=fun c o hc e nt=>b _ _ (a _ _ hc e nt)
theorem butt_samet {x:Addr}{C:Hp}(a:d5p x A B)(b:b5f B C):d5p x A C:=fun c o hc e nt=>b _ _ (a _ _ hc e nt) nt
def tlF (n:Nat)(rs:List Row):Nat->List Row × List Row
 | 0=>(rs,[])
 | i + 1=>match ((tlF n rs i).1.filter fun r=>(sn n r).testBit i) with
  | []=>tlF n rs i
  | g :: _=>((tlF n rs i).1.map (stp n i g),(tlF n rs i).2.map (stp n i g) ++ [g])
structure TF (n:Nat)(us:List Row):Prop where
 ok:∀ r ∈ us,r.Ok n
 com:∀ r ∈ us,∀ s ∈ us,a4s r s=false
theorem TF.step {n:Nat}{b6r told:List Row}(h:TF n (b6r ++ told)){g:Row}(hg:g ∈ b6r):TF n (b6r.map (stp n i g) ++ (told.map (stp n i g) ++ [g])):=by
 have gm:g ∈ b6r ++ told:=List.mem_append_left _ hg
 have key:∀ r ∈ b6r.map (stp n i g) ++ (told.map (stp n i g) ++ [g]),∃ u ∈ b6r ++ told,r=u\/r=tm u g:=fun r hr=>by
  rw [<- List.append_assoc,<- List.map_append] at hr
  rcases List.mem_append.1 hr with hr | hr
  ·obtain ⟨u,hu,rfl⟩:=List.mem_map.1 hr;refine ⟨u,hu,?_⟩;unfold stp
   split
   ·exact .inr rfl
   ·exact .inl rfl
  ·rw [List.mem_singleton.1 hr];exact ⟨g,gm,.inl rfl⟩
 refine ⟨fun r hr=>?_,fun r hr s hs=>?_⟩
 ·obtain ⟨u,hu,rfl | rfl⟩:=key r hr
  ·exact h.ok _ hu
  ·exact ⟨tm_le _ _,Nat.xor_lt_two_pow (h.ok u hu).x (h.ok g gm).x,Nat.xor_lt_two_pow (h.ok u hu).z (h.ok g gm).z⟩
 ·obtain ⟨u,hu,e⟩:=key r hr;obtain ⟨v,hv,e'⟩:=key s hs
  have a1:∀ w ∈ b6r ++ told,a4s r w=false:=fun w hw=>by
   rcases e with rfl | rfl
   ·exact h.com _ hu w hw
   ·rw [b8x (d0k u g),h.com u hu w hw,h.com g gm w hw]; rfl
  rcases e' with rfl | rfl
  ·exact a1 _ hv
  ·rw [a9w,b8x (d0k v g),a9w v,a9w g,a1 v hv,a1 g gm]; rfl
theorem Kept.apart {n:Nat}(h:Kept n rs)(ok:SpOk (rs.map (sn n)) ss)(hz:ss.length <= (rs.map (sn n)).length):ss.length=(rs.map (sn n)).length:=by
 refine Nat.le_antisymm hz ?_;have h1:=sp_many (l:=ss.map Sm.t) (n:=(rs.map (sn n)).length) (a5g (rs.map (sn n))) (fun a b ha hb e=>ind_inj h.ind ha hb e) (fun v _=>(ok.cov v).spn);rw [List.length_map (f:=Sm.t)] at h1;exact h1
def c0b (K:PySem.W.Frag):Sp:=fun vs H Q _=>∃ (l:Addr) (n:Nat) (as:List Addr) (rs:List Row),vs=[.ref l,.int n]/\H l=some (.lst (refs as))/\a6h (Rt K H) as rs/\Kept n rs/\n <= 40/\∀ H',a2c H H'->Q .non H'
def d5w (K:PySem.W.Frag):Sp:=fun vs H Q _=>∃ (l:Addr) (n:Nat) (as:List Addr) (rs:List Row),vs=[.ref l,.int n]/\H l=some (.lst (refs as))/\a6h (Rt K H) as rs/\Kept n rs/\n <= 40/\∀ p H' bs,a2c H H'->H p=none->H' p=some (.lst (refs bs))->a6h (Rt K H') bs (tlF n rs (2 * n)).2->Q (.ref p) H'
inductive NwD where
 | wh (ws:Wh)
 | rw (rs:List Row)
def Now1 (K:PySem.W.Frag)(CM:MK->Addr)(H:Hp)(x:Addr)(n:Nat):NwD->Prop
 | .wh ws=>∃ a,d5v CM H x n a/\a9d K H a ws/\Wn n ws
 | .rw rs=>d2u K CM H x n rs/\Kept n rs
def Told1 (K:PySem.W.Frag)(H:Hp)(p:Addr)(n:Nat):NwD->Prop
 | .wh ws=>a9d K H p ws/\(ws.map (·.1)).Nodup
 | .rw rs=>∃ bs,H p=some (.lst (refs bs))/\a6h (Rt K H) bs (tlF n rs (2 * n)).2
theorem Now1.stay {K:PySem.W.Frag}{CM:MK->Addr}{H H':Hp}{x:Addr}{n:Nat}{D:NwD}(h:Now1 K CM H x n D)(s:a2c H H'):Now1 K CM H' x n D:=by
 cases D with
 | wh ws=>obtain ⟨a,h1,h2,h3⟩:=h; exact ⟨a,h1.stay s,h2.stay s,h3⟩
 | rw ds=>exact ⟨h.1.stay s,h.2⟩
theorem Now1.stayT {K:PySem.W.Frag}{CM:MK->Addr}{H H':Hp}{x:Addr}{n:Nat}{D:NwD}(h:Now1 K CM H x n D)(s:b5f H H'):Now1 K CM H' x n D:=by
 cases D with
 | wh ws=>obtain ⟨a,h1,h2,h3⟩:=h; exact ⟨a,h1.stayT s,whT s h2,h3⟩
 | rw ds=>exact ⟨h.1.stayT s,h.2⟩
theorem Told1.stayT {n:Nat}{D:NwD}(h:Told1 K H p n D)(s:b5f H H'):Told1 K H' p n D:=by
 cases D with
 | wh ws=>exact ⟨whT s h.1,h.2⟩
 | rw ds=>
  obtain ⟨bs,h1,h2⟩:=h;exact ⟨bs,s _ _ h1 (fun _ z=>nomatch z),rts_stayT h2 s⟩
theorem told_ne {q:Addr}{n:Nat}{D:NwD}(a:Told1 K H p n D)(b:Told1 K H q n D)(h:Q (.bl false) H):rEqM true K (.ref p) (.ref q) H Q\/rNeD K (.ref p) (.ref q) H Q:=by
 cases D with
 | wh ws=>exact .inl (whAt_neN a.1 b.1 a.2 h)
 | rw ds=>
  obtain ⟨bs,h1,h2⟩:=a;obtain ⟨bs',h1',h2'⟩:=b;refine .inr (st_neRL (SqL.of h1) (SqL.of h1') h2 h2' fun c e=>?_)
  cases c with
  | false=>exact h
  | true=>exact absurd rfl (e.1 rfl)
theorem Now1.mg {CM:MK->Addr}{x:Addr}{n:Nat}{D:NwD}(h:Now1 K CM H x n D)(hn:n <= 40):Mg K CM H x n:=by
 cases D with
 | wh ws=>obtain ⟨a,h1,h2,h3⟩:=h; exact .inl ⟨a,ws,h1,h2,h3⟩
 | rw ds=>
  exact .inr ⟨_,h.1,h.2⟩
theorem kept_start (n:Nat):Kept n (starts n):=by
 have z:∀ a b:Nat,a4s ⟨0,0,a⟩ ⟨0,0,b⟩ = false:=fun a b=>by
  unfold a4s;rw [Nat.zero_and,Nat.and_zero,c4h]; rfl
 unfold starts;refine ⟨by rw [List.length_map,List.length_range],fun r hr=>?_,fun r hr s hs=>?_,?_⟩
 ·obtain ⟨k,hk,rfl⟩:=List.mem_map.1 hr;exact ⟨Nat.zero_le _,Nat.two_pow_pos n,Nat.pow_lt_pow_right (by decide) (List.mem_range.1 hk)⟩
 ·obtain ⟨a,_,rfl⟩:=List.mem_map.1 hr;obtain ⟨b,_,rfl⟩:=List.mem_map.1 hs;exact z _ _
 ·have key:∀ k,k <= n->Ind (((List.range k).map fun k=>(⟨0,0,2 ^ k⟩:Row)).map (sn n)):=by
   intro k
   induction k with
   | zero=>intro _; exact trivial
   | succ k ih=>
    intro hk;rw [List.range_succ,List.map_append,List.map_append];refine c8k (ih (by omega)) fun ⟨m,_,e⟩=>?_
    have hb:(a5g (((List.range k).map fun k=>(⟨0,0,2 ^ k⟩:Row)).map (sn n)) m).testBit (k + n) = false:=by
     refine d6d m fun v hv=>?_;obtain ⟨r,hr,rfl⟩:=List.mem_map.1 hv;obtain ⟨j,hj,rfl⟩:=List.mem_map.1 hr;have hj:=List.mem_range.1 hj;show ((0:Nat) ^^^ 2 ^ j * 2 ^ n).testBit (k + n) = false;rw [Nat.zero_xor,<- Nat.pow_add,Nat.testBit_two_pow_of_ne (by omega)]
    rw [e] at hb;have hb2:((0:Nat) ^^^ 2 ^ k * 2 ^ n).testBit (k + n) = false:=hb;rw [Nat.zero_xor,<- Nat.pow_add,Nat.testBit_two_pow_self] at hb2;cases hb2
  exact key n (Nat.le_refl n)
def New1 (K:PySem.W.Frag)(CM:MK->Addr)(H:Hp)(x:Addr)(n:Nat):Prop:=(∃ a,d5v CM H x n a/\a9d K H a [(0,(1,0))])\/d2u K CM H x n (starts n)
theorem New1.ins {CM:MK->Addr}{x:Addr}{n:Nat}(h:New1 K CM H x n):Mn CM H x n:=by
 rcases h with ⟨a,⟨dx,e⟩,_⟩ | ⟨dx,a,xs,e,_⟩
 ·exact .inl ⟨dx,a,e⟩
 ·exact .inr ⟨dx,a,e⟩
theorem New1.stay {K:PySem.W.Frag}{CM:MK->Addr}{H H':Hp}{x:Addr}{n:Nat}(h:New1 K CM H x n)(s:a2c H H'):New1 K CM H' x n:=by
 rcases h with ⟨a,h1,h2⟩ | h1
 ·exact .inl ⟨a,h1.stay s,h2.stay s⟩
 ·exact .inr (h1.stay s)
theorem New1.butT {K:PySem.W.Frag}{CM:MK->Addr}{H H':Hp}{x y C dx0:Addr}{fs:List (Str × V)}{n:Nat}(h:New1 K CM H x n)(s:d5p y H H')(hy:H y=some (.ins C dx0 fs))(ne:x ≠ y):New1 K CM H' x n:=by
 rcases h with ⟨a,⟨dx,e⟩,⟨kv,e2,r⟩⟩ | h1
 ·exact .inl ⟨a,⟨dx,s _ _ ne e (fun _ z=>nomatch z)⟩,kv,s _ _ (fun z=>by rw [z,hy] at e2; cases e2) e2 (fun _ z=>nomatch z),r.stay fun y ys q=>butT_sq s hy q⟩
 ·exact .inr (h1.butT s hy ne)
theorem do_first {CM:MK->Addr}{x:Addr}{n:Nat}{d:Dd}{Q:Hp->Prop}(h:New1 K CM H x n)(hn:n <= 6)(ok:d.Ok n)(hT:d1j T1 T2 T3 T4 H)
  (q:∀ H' D,d5p x H H'->d1j T1 T2 T3 T4 H'->Now1 K CM H' x n D->Q H') :
  (∃ a ws,d5v CM H x n a/\a9d K H a ws/\(ws.map (·.1)).Nodup/\ws.length <= 90/\d1j T1 T2 T3 T4 H/\∀ p H',d5p x H H'->d1j T1 T2 T3 T4 H'->H p=none->d5v CM H' x n p->a9d K H' p (wnz (b2b d ws))->Q H')\/
   (∃ rs,d2u K CM H x n rs/\rs.length <= 10/\∀ H',But x H H'->d2u K CM H' x n (rs.map (act d))->Q H'):=by
 rcases h with ⟨a,h1,h2⟩ | h1
 ·refine .inl ⟨a,_,h1,h2,(Wn.start n).nd,by decide,hT,fun p H' hB hT' _ hE hW=>q H' (.wh _) hB hT' ⟨p,hE,hW,(Wn.start n).deed ok⟩⟩
 ·obtain ⟨dx,a,xs,hx,_⟩:=id h1;exact .inr ⟨_,h1,by unfold starts; rw [List.length_map,List.length_range]; omega,fun H' hB hS=>q H' (.rw _) (fun c o hc e _=>hB _ _ hc e) (c3y hT hB hx) ⟨hS,(kept_start n).act ok⟩⟩
def d1h (K:PySem.W.Frag):Sp:=fun vs H Q _=>∃ (c:Int) (n:Nat),vs=[.int c,.int n]/\0 < n/\n <= 6/\∀ p H' s,a2c H H'->d3b H' p s->s.Ok n->Q (.ref p) H'
def c9w (K:PySem.W.Frag):Sp:=fun vs H Q _=>∃ (c:Int) (n:Nat),vs=[.int c,.int n]/\0 < n/\n <= 6/\∀ (v:V) p due d H',a2c H H'->H' p=some (.tup [v,.str due])->(∀ G,b9w H' G->d8f K G n v due)->It H' v d->Q (.ref p) H'
def b8t (K:PySem.W.Frag)(CM:MK->Addr)(T:Addr):Sp:=fun vs H Q _=>∃ (x l c:Addr) (n:Nat) (us:List V) (i:Nat) (v:V) (due:Str),vs=[.ref x,.ref l,.ref c]/\Mg K CM H x n/\0 < n/\n <= 6/\SqL K H l us/\us.length <= 100/\(∀ j u,j < i->us[j]? = some u->∃ a s,u=.ref a/\d3b H a s/\s.Ok n)/\us[i]? = some v/\d8f K H n v due/\a8h H T lam_ref/\∀ H',SameX T H H'->a8h H' T lam_ref->Q (.str due) H'
def d2c (K:PySem.W.Frag)(CM:MK->Addr):Sp:=fun vs H Q _=>∃ (x:Addr) (n:Nat) (D:NwD),vs=[.ref x]/\n <= 6/\Now1 K CM H x n D/\∀ p H',a2c H H'->H p=none->Told1 K H' p n D->Q (.ref p) H'
def sp_law (K:PySem.W.Frag)(T1 T2 T3 T4:Addr):Sp:=fun vs H Q _=>∃ (a:Addr) (ns:List Int),vs=[.ref a]/\SqL K H a (ns.map V.int)/\ns.length <= 63/\d1j T1 T2 T3 T4 H/\∀ H',Q (.bl true) H'
section
variable {P:Program}{w:World}{K:PySem.W.Frag}{mg:Str->Option Value}{base:Heap}{a1t a0h a1j a0g a1s a0j:Addr}{a4m a7e a1z b6v a1x a0m a2u a2f a1n a1v a5m:Addr}{a8f:DK->Addr}{c1w:SK->Addr}
theorem lk1 {a b x:Str}(h:List.lookup x [(a,NameKind.local),(b,NameKind.free)] = some .free):x=b:=by
 have:=PySem.mem_of_lookup h
 simpa using this
theorem ls_over (c:Addr):d6n ["b","bit"] ["b"] c1z [("bit",c)] where
 kind:=rfl
 co:=rfl
 gen:=rfl
 nd:=by decide +kernel
 pre:=rfl
 par:=by decide +kernel
 post:=fun i x h e=>by
  match i,h,e with
  | 1,_,e=>cases e; rfl
  | i + 2,_,e=>cases e
 nocell:=by decide +kernel
 fr:=fun x h=>⟨c,by
  have h2:List.lookup x [(("b":Str),NameKind.local),("bit",NameKind.free)] = some .free:=h;rw [lk1 h2]
  rfl⟩
 inj:=fun x y d h1 h2=>by
  have e1:=PySem.mem_of_lookup h1;have e2:=PySem.mem_of_lookup h2;simp only [List.mem_singleton,Prod.mk.injEq] at e1 e2;rw [e1.1,e2.1]
 binds:=fun pm ctv c' us hl=>by
  match us,hl with
  | [_],_=>rfl
theorem lk2 {a b c d x:Str}{k:NameKind}(hk:k ≠ .free)(h:List.lookup x [(a,NameKind.local),(b,NameKind.free),(c,NameKind.free),(d,k)] = some .free):x=b\/x=c:=by
 have:=PySem.mem_of_lookup h;simp only [List.mem_cons,Prod.mk.injEq,List.not_mem_nil,or_false] at this
 rcases this with ⟨_,z⟩ | ⟨z,_⟩ | ⟨z,_⟩ | ⟨_,z⟩
 ·cases z
 ·exact .inl z
 ·exact .inr z
 ·exact absurd z.symm hk
theorem ls_two {x:Str}{d:Addr}{k:NameKind}(hcd:c ≠ d)(hk:k ≠ .free)(hkc:k ≠ .cell)(hn:l.scope.names=[(("b":Str),NameKind.local),(("j":Str),NameKind.free),(("k":Str),NameKind.free),(x,k)])(h1:l.scope.kind=.function)(h2:l.scope.isCoroutine=false)(h3:l.scope.isGenerator=false)
  (hb:∀ (pm ctv:Value) (c':Addr) (us:List Value),us.length=1->bindArgs (PySem.W.kla_fn "<lambda>" l.qual l.params l.body l.scope [("k",d),("j",c)] pm (.ref c') ctv) ⟨us,[]⟩ = pure ((["b"]:List Str).zip us)):d6n ["b","j","k"] ["b"] l [("k",d),("j",c)] where
 kind:=h1
 co:=h2
 gen:=h3
 nd:=by decide +kernel
 pre:=rfl
 par:=fun y hy=>by
  rw [List.mem_singleton.mp hy,hn];rfl
 post:=fun i y h e=>by
  rw [hn]
  match i,h,e with
  | 1,_,e=>cases e; rfl
  | 2,_,e=>cases e; rfl
  | i + 3,_,e=>cases e
 nocell:=fun y hy=>by
  rw [hn] at hy;simp only [List.mem_cons,List.not_mem_nil,or_false] at hy
  rcases hy with rfl | rfl | rfl | rfl
  ·decide
  ·decide
  ·decide
  ·exact hkc
 fr:=fun y h=>by
  rw [hn] at h
  rcases lk2 hk h with rfl | rfl
  ·exact ⟨c,rfl⟩
  ·exact ⟨d,rfl⟩
 inj:=fun y z e g1 g2=>by
  have e1:=PySem.mem_of_lookup g1;have e2:=PySem.mem_of_lookup g2;simp only [List.mem_cons,Prod.mk.injEq,List.not_mem_nil,or_false] at e1 e2
  rcases e1 with ⟨a1,b1⟩ | ⟨a1,b1⟩ <;> rcases e2 with ⟨a2,b2⟩ | ⟨a2,b2⟩
  ·rw [a1,a2]
  ·exact absurd (b2.symm.trans b1) hcd
  ·exact absurd (b1.symm.trans b2) hcd
  ·rw [a1,a2]
 binds:=hb
theorem cells_two {d:Addr}{b:V}(h1:d4e G c i)(h2:d4e G d j):CellsAt G ["b","j","k"] [("k",d),("j",c)] (([b] ++ [V.int (i:Int),V.int (j:Int)]).map some):=fun x e hx=>by
 have e1:=PySem.mem_of_lookup hx;simp only [List.mem_cons,Prod.mk.injEq,List.not_mem_nil,or_false] at e1
 rcases e1 with ⟨rfl,rfl⟩ | ⟨rfl,rfl⟩
 ·obtain ⟨o,t,g1,g2⟩:=h2;refine ⟨o,_,g1,g2,fun n v e1 e2=>?_⟩
  match n,e1,e2 with
  | 0,e1,_=>exact absurd (Option.some.inj e1) (by decide +kernel)
  | 1,e1,_=>exact absurd (Option.some.inj e1) (by decide +kernel)
  | 2,_,e2=>cases e2; exact ⟨t,rfl⟩
  | n + 3,e1,_=>cases e1
 ·obtain ⟨o,t,g1,g2⟩:=h1;refine ⟨o,_,g1,g2,fun n v e1 e2=>?_⟩
  match n,e1,e2 with
  | 0,e1,_=>exact absurd (Option.some.inj e1) (by decide +kernel)
  | 1,_,e2=>cases e2; exact ⟨t,rfl⟩
  | 2,e1,_=>exact absurd (Option.some.inj e1) (by decide +kernel)
  | n + 3,e1,_=>cases e1
theorem cells_one {b:V}(h1:d4e G c i):CellsAt G ["b","bit"] [("bit",c)] (([b] ++ [V.int (i:Int)]).map some):=fun x e hx=>by
 have e1:=PySem.mem_of_lookup hx;simp only [List.mem_singleton,Prod.mk.injEq] at e1;obtain ⟨rfl,rfl⟩:=e1;obtain ⟨o,t,g1,g2⟩:=h1;refine ⟨o,_,g1,g2,fun n v e1 e2=>?_⟩
 match n,e1,e2 with
 | 0,e1,_=>exact absurd (Option.some.inj e1) (by decide +kernel)
 | 1,_,e2=>cases e2; exact ⟨t,rfl⟩
 | n + 2,e1,_=>cases e1
theorem lam_ok (a1k:Cal P w K mg base CX0 1 "bit_at" ["number","k"] (c9m K))(a6b:Cal P w K mg base CX0 2 "exchanged" ["number","j","k"] (b7v K)):LCal P w K mg base 3 LL:=by
 refine ⟨fun f vs H Q h=>?_,fun f A outer s H us vs Q hr e0 r h=>?_⟩
 ·obtain ⟨b,g,rfl,hG,_⟩:=h;exact hG.fn
 ·obtain ⟨b,g,rfl,hG,q⟩:=h
  cases hG with
  | over hL hc hi=>
   rename_i c i;refine run_lam (k:=2) (ws:=[.int ((2 ^ i:Nat):Int)]) (ls_over c) hr e0 r rfl rfl hL (cells_one hc) (fun p hp=>⟨"bit",by rw [List.mem_singleton.mp hp]; rfl⟩) fun c'=>?_;have hr:=hr.deeper (PySem.W.envX c1z.qual c1z.scope s.heap.objs.size f (.ref c') [("bit",c)]);refine ⟨_,(a0w (a4x) (pv 0) (pv 1)),?_⟩;fail "go";rw [rec_unc];exact q
  | wher hL hcd hc hd hi hj=>
   rename_i c d i j
   refine run_lam (k:=2) (ws:=[.int (i:Int),.int (j:Int)]) (ls_two hcd (by decide) (by decide) rfl rfl rfl rfl fun pm ctv c' us hl=>(match us,hl with | [_],_=>rfl)) hr e0 r rfl rfl hL (cells_two hc hd) (fun p hp=>by
    simp only [List.mem_cons,List.not_mem_nil,or_false] at hp
    rcases hp with rfl | rfl
    ·exact ⟨"k",rfl⟩
    ·exact ⟨"j",rfl⟩) fun c'=>?_
   have hr:=hr.deeper (PySem.W.envX c8a.qual c8a.scope s.heap.objs.size f (.ref c') [("k",d),("j",c)]);refine ⟨_,(a0w (a4x) (pv 0) (a0w (a8k) (a1b a1k hr a0x (a0a (pv 0) (a0a (pv 1) a0d))) (pv 2))),?_⟩;fail "go";refine ⟨b,i,rfl,?_⟩;fail "go";rw [rec_unc];exact q
  | swap hL hcd hc hd hi hj=>
   rename_i c d i j
   refine run_lam (k:=2) (ws:=[.int (i:Int),.int (j:Int)]) (ls_two hcd (by decide) (by decide) rfl rfl rfl rfl fun pm ctv c' us hl=>(match us,hl with | [_],_=>rfl)) hr e0 r rfl rfl hL (cells_two hc hd) (fun p hp=>by
    simp only [List.mem_cons,List.not_mem_nil,or_false] at hp
    rcases hp with rfl | rfl
    ·exact ⟨"k",rfl⟩
    ·exact ⟨"j",rfl⟩) fun c'=>?_
   have hr:=hr.deeper (PySem.W.envX c8p.qual c8p.scope s.heap.objs.size f (.ref c') [("k",d),("j",c)]);refine ⟨_,(a1b a6b hr a0x (a0a (pv 0) (a0a (pv 1) (a0a (pv 2) a0d)))),?_⟩;fail "go";refine ⟨b,i,j,rfl,hi,hj,?_⟩;fail "go";rw [rec_unc];exact q
variable {f:Addr}{fd:FuncData}(a0t:mg "isinstance" = none)(b_int:mg "int" = none)(b_bool:mg "bool" = none)(T_M:Txt_M K a6g)(a9p:ExcC K mg "NoWires" a4m)(a2d:Cal P w K mg base CX0 1 "is_whole_number" ["thing"] (b2v K))(a2n:CCal P w K mg base (CXE P w) 2 "Machine" "__init__" ["self","n","most"] (a7g K a6g a4m))(a5s:GC mg "MOST_WIRES_EXACT" (.int 6))(b2x:GC mg "MOST_WIRES" (.int 40))(b4g:mg "range" = none)(a1k:Cal P w K mg base CX0 1 "bit_at" ["number","k"] (c9m K))(a1h:Cal P w K mg base CX0 1 "without_noughts" ["whole"] (b2u K))(h_lam:LCal P w K mg base 3 (LL))(T_D:Txt_D K a8f)(b3w:Cal P w K mg base CX0 4 "moved" ["whole","place_of"] (sp_moved K))(a6z:PySem.W.CodeHd base a1t a0h)(bm:BltM mg base)(a6v:Cal P w K mg base CX0 1 "times_i" ["pair","often"] (d5g K))(a2m:Cal P w K mg base CX0 2 "turned_where_down" ["whole","k","often"] (b0r K))(b3d:Cal P w K mg base CX0 1 "add_at" ["whole","b","pair"] (c9r K))(a6k:PySem.W.CodeHd base a1j a0g)(a7b:PySem.W.CodeHd base a1s a0j)(b3e:∀ d:DK,c0e P w K mg base CX0 5 (a8f d) "on_whole" ["self","whole"] (a4n K a8f a0h a0g a0j a0m d))(a8j:GC mg "XS" (.int 1))(a8g:GC mg "ZS" (.int 2))(a1y:GC mg "MINUS" (.int 0))(a6b:Cal P w K mg base CX0 2 "exchanged" ["number","j","k"] (b7v K))(b9q:∀ d:DK,c0e P w K mg base CX0 3 (a8f d) "on_row" ["self","row"] (c9v K a8f d))(a6u:mg "list" = none)(a0y:CCal P w K mg base CX0 1 "Deed" "__init__" ["self","word","undoer","at"] (b0b K a8f))(a3a:ExcC K mg "NoDeed" a1n)(a5p:GTab K mg "WIRES_BEHIND" a5m [("over",1),("quarter",1),("back",1),("both",1),("where",2),("swap",2)])(a6t:mg "len" = none)(b6s:mg "all" = none)(a8v:mg "tuple" = none)(b_str:mg "str" = none)(k_Swap:d6v P w K mg base CX0 2 "Swap" (a8f .swap) ["self","j","k"] (b0k K a8f))(k_Over:d6v P w K mg base CX0 2 "Over" (a8f .over) ["self","k"] (b0e K a8f))(c2p:d6v P w K mg base CX0 2 "Quarter" (a8f .quarter) ["self","k"] (a7h K a8f))(k_Back:d6v P w K mg base CX0 2 "Back" (a8f .back) ["self","k"] (a9y K a8f))(k_Both:d6v P w K mg base CX0 2 "Both" (a8f .both) ["self","k"] (b0h K a8f))(d6h:d6v P w K mg base CX0 2 "Where" (a8f .wher) ["self","j","k"] (a9c K a8f))(b0v:Cal P w K mg base (CXE P w) 2 "check_words" ["words"] (c0j K a1n))(b_min:mg "min" = none)(a3d:ExcC K mg "NoWire" a1v)(c1x:∀ d:DK,c0e P w K mg base CX0 1 (a8f d) "wires" ["self"] (d5d K a8f d))(a7v:Cal P w K mg base (CXE P w) 4 "deed_of_words" ["words"] (b6k K a8f a1n a1v))(b_max:mg "max" = none)(b9f:∀ d:MK,c0e P w K mg base CX0 6 (a6g d) "follow" ["self","deed"] (d2v K a8f a6g a0h a0g a0j a0m d))(b1h:Cal P w K mg base (CXE P w) 5 "deed_of" ["words","n"] (d5e K a8f a1n a1v))(a1d:Cal P w K mg base CX0 1 "_law_mixed" ["_law_draw","_law_k"] (c3u K))(b2s:Cal P w K mg base CX0 2 "_law_bits" ["_law_draw","_law_k","_law_n"] (c5q K))(b3g:Cal P w K mg base CX0 2 "_law_words" ["_law_draw","_law_n"] (c2v K))(b2y:Cal P w K mg base CX0 3 "_law_signs" ["_law_draw","_law_n"] (c2d K))(c9z:mg "dict" = none)(a9q:Cal P w K mg base CX0 1 "ones" ["number"] (sp_ones K))(b5n:mg "enumerate" = none)(a2q:Cal P w K mg base CX0 2 "goes_beside" ["one","other"] (c0a K))(T_N:Txt_N K c1w)(a7f:∀ d:SK,c0e P w K mg base CX0 1 (c1w d) "left_of" ["self","number","which"] (c5r K c1w d))(b3a:Cal P w K mg base CX0 1 "lowest_bit" ["number"] (c2m K))(c8x:∀ d:SK,c0e P w K mg base CX0 2 (c1w d) "take" ["self","number"] (sp_N_take K c1w d))(c8j:∀ d:SK,c0e P w K mg base CX0 1 (c1w d) "rank" ["self"] (sp_N_rank K c1w d))(c9h:d6v P w K mg base CX0 3 "Span" (c1w .span) ["self","numbers"] (b0g K c1w))(a3q:ExcC K mg "NoRow" a2f)(c_fits:Cal P w K mg base CX0 1 "fits" ["number","n"] (sp_fits K))(a5d:Cal P w K mg base (CXE P w) 2 "checked_row" ["thing","n"] (c0m K a2f))(b1t:ExcC K mg "NoWhole" b6v)(b3c:Cal P w K mg base CX0 3 "all_beside" ["rows"] (c2z K))(b4z:Cal P w K mg base CX0 5 "are_apart" ["numbers"] (c6a K))(c8t:Cal P w K mg base CX0 3 "is_row" ["thing","n"] (sp_is_row K))(a2k:Cal P w K mg base CX0 1 "signs_number" ["row","n"] (b7d K))(b5y:ExcC K mg "NoProduct" a7e)(a5w:Cal P w K mg base CX0 2 "letters_y" ["row"] (c6e K))(a8z:Cal P w K mg base CX0 2 "has_sign" ["row","sign","n"] (d0n K))(b3p:Cal P w K mg base (CXE P w) 3 "times" ["one","other"] (sp_times K a7e))(b0x:Cal P w K mg base (CXE P w) 6 "check_whole" ["rows","n"] (c0b K))(a6w:Cal P w K mg base CX0 4 "without_sign" ["rows","sign","leading","n"] (b7t K))(d7e:mg "Exact" = some (.ref (a6g .ex)))(c3c:∀ d:Unit,c0e P w K mg base CX0 1 (a6g .ex) "whole" ["self"] (d5u K a6g d))(c8g:∀ d:Unit,c0e P w K mg base CX0 1 (a6g .sg) "rows" ["self"] (sp_S_rows K a6g d))(b2k:∀ d:MK,c0e P w K mg base CX0 1 (a6g d) "wires" ["self"] (d5b K a6g d))(c3r:Cal P w K mg base (CXE P w) 7 "telling" ["rows","n"] (d5w K))(d9h:Cal P w K mg base CX0 2 "added" ["one","other"] (sp_added K))(b9p:Cal P w K mg base CX0 3 "acted_on" ["whole","row"] (d1k K))(a9v:Cal P w K mg base CX0 4 "half_by" ["whole","row","value"] (d4t K))(b2z:∀ d:SK,c0e P w K mg base CX0 2 (c1w d) "parts_of" ["self","number"] (c3w K c1w d))(c8r:Cal P w K mg base CX0 1 "widest" ["rows"] (sp_widest K))(c8y:Cal P w K mg base CX0 2 "places" ["number"] (sp_places K))(b2w:Cal P w K mg base CX0 4 "product_of" ["rows"] (c2e K))(c3s:Cal P w K mg base CX0 5 "made_of" ["rows","row"] (d5c K))(a3c:ExcC K mg "NoLook" a1z)(b5a:Cal P w K mg base CX0 2 "weight_of" ["row"] (c6k K))(a9j:∀ d:MK,c0e P w K mg base CX0 6 (a6g d) "sure_value" ["self","row"] (b8d K a6g d))(b9t:∀ d:MK,c0e P w K mg base CX0 5 (a6g d) "settle" ["self","row","value"] (d1m K a6g d))(a6e:Cal P w K mg base (CXE P w) 3 "check_look" ["row","n"] (c2s K a2f a1z))(b0y:Cal P w K mg base CX0 4 "value_drawn" ["draw"] (b9x K))(b2g:Cal P w K mg base CX0 1 "is_look" ["step"] (d5x K))(a8p:Cal P w K mg base CX0 1 "look_row" ["look"] (d2n K))(d1w:∀ d:MK,c0e P w K mg base (CXE P w) 7 (a6g d) "do" ["self","words"] (sp_M_do K a8f a6g a0h a0g a0j a0m a1n a1v d))(c9b:∀ d:MK,c0e P w K mg base (CXE P w) 7 (a6g d) "look" ["self","row","draw"] (sp_M_look K a6g d))(b3h:Cal P w K mg base (CXE P w) 6 "check_step" ["step","n"] (c3v K a1n a1v a2f a1z))(b5b:ExcC K mg "WireError" a2u)(b9h:Cal P w K mg base (CXE P w) 8 "run_work" ["machine","work","draw"] (b5t K a6g a0h a0g a0j a0m a1n a1v a2f a1z))(a8e:PySem.W.CodeHd base a1x a0m)(d8h:d6v P w K mg base (CXE P w) 3 "Exact" (a6g .ex) ["self","n"] (a8s K a6g a4m))(d7k:d6v P w K mg base (CXE P w) 3 "Signs" (a6g .sg) ["self","n"] (a9a K a6g a4m))(b9s:Cal P w K mg base CX0 2 "_law_bad" ["_law_draw","_law_n"] (c9w K))(b9r:Cal P w K mg base CX0 4 "_law_one" ["_law_draw","_law_n"] (d1h K))(a5q:Cal P w K mg base CX0 1 "_law_cell_at" ["_law_script","_law_k"] (b8r K))(b4t:Cal P w K mg base CX0 8 "_law_now" ["_law_machine"] (d2c K a6g))(b1w:CalN P w K mg base (CXE P w) 8 "run_work" ["machine","work","draw"] (b5t K a6g a0h a0g a0j a0m a1n a1v a2f a1z))(a9e:Cal P w K mg base CX0 9 "_law_refusal" ["_law_machine","_law_work","_law_calls"] (b8t K a6g a0m))(a4g:PySem.W.kitOne K (.ref a1n) (.ref a1n) = some true)(a4v:PySem.W.kitOne K (.ref a1n) (.ref a2f) = some false)(a4c:PySem.W.kitOne K (.ref a1n) (.ref a1z) = some false)(a4h:PySem.W.kitOne K (.ref a1v) (.ref a1n) = some false)(a4a:PySem.W.kitOne K (.ref a1v) (.ref a1v) = some true)(a5c:PySem.W.kitOne K (.ref a1v) (.ref a2f) = some false)(a4f:PySem.W.kitOne K (.ref a1v) (.ref a1z) = some false)(a5b:PySem.W.kitOne K (.ref a2f) (.ref a1n) = some false)(a4z:PySem.W.kitOne K (.ref a2f) (.ref a1v) = some false)(a5n:PySem.W.kitOne K (.ref a2f) (.ref a2f) = some true)(a3u:PySem.W.kitOne K (.ref a2f) (.ref a1z) = some false)(a4b:PySem.W.kitOne K (.ref a1z) (.ref a1n) = some false)(a4d:PySem.W.kitOne K (.ref a1z) (.ref a1v) = some false)(a4w:PySem.W.kitOne K (.ref a1z) (.ref a2f) = some false)(a3e:PySem.W.kitOne K (.ref a1z) (.ref a1z) = some true)(a2w:PySem.W.exmOne K (.ref a1n) (.ref a2u) = some true)(a2v:PySem.W.exmOne K (.ref a1v) (.ref a2u) = some true)(a3b:PySem.W.exmOne K (.ref a2f) (.ref a2u) = some true)(a2t:PySem.W.exmOne K (.ref a1z) (.ref a2u) = some true)
local macro_rules | `(tactic| fail "l0")=>`(tactic| exact fun vs H Q E h=>by obtain ⟨e,_⟩:=h; subst e; rfl)
local macro_rules | `(tactic| fail "l1")=>`(tactic| exact fun vs H Q E h=>by obtain ⟨_,e,_⟩:=h; subst e; rfl)
local macro_rules | `(tactic| fail "l2")=>`(tactic| exact fun vs H Q E h=>by obtain ⟨_,_,e,_⟩:=h; subst e; rfl)
local macro_rules | `(tactic| fail "l3")=>`(tactic| exact fun vs H Q E h=>by obtain ⟨_,_,_,e,_⟩:=h; subst e; rfl)
local macro_rules | `(tactic| fail "l4")=>`(tactic| exact fun vs H Q E h=>by obtain ⟨_,_,_,_,e,_⟩:=h; subst e; rfl)
local macro_rules | `(tactic| fail "l5")=>`(tactic| exact fun vs H Q E h=>by obtain ⟨_,_,_,_,_,e,_⟩:=h; subst e; rfl)
local macro_rules | `(tactic| fail "l6")=>`(tactic| exact fun vs H Q E h=>by obtain ⟨_,_,_,_,_,_,e,_⟩:=h; subst e; rfl)
local macro_rules | `(tactic| fail "l7")=>`(tactic| exact fun vs H Q E h=>by obtain ⟨_,_,_,_,_,_,_,e,_⟩:=h; subst e; rfl)
local macro_rules | `(tactic| fail "l8")=>`(tactic| exact fun vs H Q E h=>by obtain ⟨_,_,_,_,_,_,_,_,e,_⟩:=h; subst e; rfl)
local macro_rules | `(tactic| fail "l9")=>`(tactic| exact fun vs H Q E h=>by obtain ⟨_,_,_,_,_,_,_,_,_,e,_⟩:=h; subst e; rfl)
include a0t b_int b_bool in theorem c3j (F:Fun K "is_whole_number" "is_whole_number" a8t f fd):a2s P w K mg base CX0 1 f fd ["thing"] (b2v K):=by
 refine F.ok c3h (by fail "l2") (fun cdv A outer s H vs Q E hr h=>?_);obtain ⟨v,b,rfl,⟨t,b1,b2,ty,e1,e2,rfl⟩,q⟩:=h;refine ⟨_,(a0k (a0v (d4q (c2b rfl a0t (pv 0) b_int d8x) (pe_one (pe_not (c2b rfl a0t (pv 0) b_bool boot_bool)))))),?_⟩;fail "st";fail "go";refine a6n ty e1 ?_
 cases b1 with
 | false=>
  fail "go";exact q
 | true=>
  fail "go";refine a6n ty e2 ?_;fail "go";exact q
include T_D in theorem c7f (F:Fun K "__init__" "Deed.__init__" b1s f fd):a2s P w K mg base CX0 1 f fd ["self","word","undoer","at"] (b0b K a8f):=by
 refine F.ok c7k (by fail "l4") (fun cdv A outer s H vs Q E hr h=>?_);obtain ⟨p,w,u,t,rfl,k,dx,hp,q⟩:=h
 refine ⟨_,(a0e (b4v (pv 0) (pv 1) rfl)
   (a0e (b4v (pv 0) (pv 2) rfl)
   (a0k (b4v (pv 0) (pv 3) rfl)))),?_⟩
 fail "st";fail "go";refine a9b hp (T_D.cl k) (T_D.n_word k) (by decide) ?_;fail "go";refine a9b a0c (T_D.cl k) (T_D.n_undoer k) (Nat.lt_of_le_of_lt (b1y _ _ _) (by decide)) ?_;fail "go";refine a9b a0c (T_D.cl k) (T_D.n_at k) (Nat.lt_of_le_of_lt (b1y _ _ _) (Nat.lt_of_le_of_lt (Nat.succ_le_succ (b1y _ _ _)) (by decide))) ?_;rw [upd_upd,upd_upd,flds_put];exact q
include a0y in theorem c7p (F:Fun K "__init__" "Over.__init__" b2h f fd):a2s P w K mg base CX0 2 f fd ["self","k"] (b0e K a8f):=by
 refine F.ok c7x (by fail "l2") (fun cdv A outer s H vs Q E hr h=>?_);obtain ⟨p,j,rfl,dx,hp,q⟩:=h;refine ⟨_,(a0k (a3f (pe_cm a0y hr a0x (a0a (pv 0) (a0a a1c (a0a a1c (a0a (a1w (a0a (pv 1) a0d)) a0d))))))),?_⟩;fail "go";rename_i t ht;refine ⟨p,_,_,t,rfl,.over,dx,?_,q t ht⟩;rw [a0q (a0n hp ht)];exact hp
include a0y in theorem c1s (F:Fun K "__init__" "Quarter.__init__" a8b f fd):a2s P w K mg base CX0 2 f fd ["self","k"] (a7h K a8f):=by
 refine F.ok c1j (by fail "l2") (fun cdv A outer s H vs Q E hr h=>?_);obtain ⟨p,j,rfl,dx,hp,q⟩:=h;refine ⟨_,(a0k (a3f (pe_cm a0y hr a0x (a0a (pv 0) (a0a a1c (a0a a1c (a0a (a1w (a0a (pv 1) a0d)) a0d))))))),?_⟩;fail "go";rename_i t ht;refine ⟨p,_,_,t,rfl,.quarter,dx,?_,q t ht⟩;rw [a0q (a0n hp ht)];exact hp
include a0y in theorem c7d (F:Fun K "__init__" "Back.__init__" b1q f fd):a2s P w K mg base CX0 2 f fd ["self","k"] (a9y K a8f):=by
 refine F.ok c7r (by fail "l2") (fun cdv A outer s H vs Q E hr h=>?_);obtain ⟨p,j,rfl,dx,hp,q⟩:=h;refine ⟨_,(a0k (a3f (pe_cm a0y hr a0x (a0a (pv 0) (a0a a1c (a0a a1c (a0a (a1w (a0a (pv 1) a0d)) a0d))))))),?_⟩;fail "go";rename_i t ht;refine ⟨p,_,_,t,rfl,.back,dx,?_,q t ht⟩;rw [a0q (a0n hp ht)];exact hp
include a0y in theorem c6q (F:Fun K "__init__" "Both.__init__" b2q f fd):a2s P w K mg base CX0 2 f fd ["self","k"] (b0h K a8f):=by
 refine F.ok c7b (by fail "l2") (fun cdv A outer s H vs Q E hr h=>?_);obtain ⟨p,j,rfl,dx,hp,q⟩:=h;refine ⟨_,(a0k (a3f (pe_cm a0y hr a0x (a0a (pv 0) (a0a a1c (a0a a1c (a0a (a1w (a0a (pv 1) a0d)) a0d))))))),?_⟩;fail "go";rename_i t ht;refine ⟨p,_,_,t,rfl,.both,dx,?_,q t ht⟩;rw [a0q (a0n hp ht)];exact hp
include a0y in theorem c4k (F:Fun K "__init__" "Where.__init__" b0j f fd):a2s P w K mg base CX0 2 f fd ["self","j","k"] (a9c K a8f):=by
 refine F.ok c4t (by fail "l3") (fun cdv A outer s H vs Q E hr h=>?_);obtain ⟨p,j,i,rfl,dx,hp,q⟩:=h;refine ⟨_,(a0k (a3f (pe_cm a0y hr a0x (a0a (pv 0) (a0a a1c (a0a a1c (a0a (a1w (a0a (pv 1) (a0a (pv 2) a0d))) a0d))))))),?_⟩;fail "go";rename_i t ht;refine ⟨p,_,_,t,rfl,.wher,dx,?_,q t ht⟩;rw [a0q (a0n hp ht)];exact hp
include a0y in theorem c6z (F:Fun K "__init__" "Swap.__init__" b2c f fd):a2s P w K mg base CX0 2 f fd ["self","j","k"] (b0k K a8f):=by
 refine F.ok c7q (by fail "l3") (fun cdv A outer s H vs Q E hr h=>?_);obtain ⟨p,j,i,rfl,dx,hp,q⟩:=h;refine ⟨_,(a0k (a3f (pe_cm a0y hr a0x (a0a (pv 0) (a0a a1c (a0a a1c (a0a (a1w (a0a (pv 1) (a0a (pv 2) a0d))) a0d))))))),?_⟩;fail "go";rename_i t ht;refine ⟨p,_,_,t,rfl,.swap,dx,?_,q t ht⟩;rw [a0q (a0n hp ht)];exact hp
include T_D a6u in theorem d6t (F:Fun K "wires" "Deed.wires" b8n f fd):a2s P w K mg base CX0 1 f fd ["self"] (c3q K a8f):=by
 refine F.ok d9m (by fail "l2") (fun cdv A outer s H vs Q E hr h=>?_);obtain ⟨a,d,rfl,⟨dx,t,ha,ht,hl⟩,q⟩:=h;refine ⟨_,(a0k (a0v (a6x (b1e) rfl a6u a9r (a0a (a2y (pv 0) rfl) a0d)))),?_⟩;have ht':SqT K H t (vn d.w):=SqT.of ht;fail "st";fail "go";refine a2b ha (T_D.cl _) (T_D.n_at _) (a5y _ _) ?_;fail "go";exact q _ (by assumption)
include a0t a2d a3a a5p a6t b6s a8v b_str in theorem d4n (F:Fun K "check_words" "check_words" b1a f fd):a2s P w K mg base (CXE P w) 2 f fd ["words"] (c0j K a1n):=by
 refine F.okE b3x (by fail "l1") (fun cdv A outer s H vs Q E hr h=>?_);obtain ⟨v,rfl,hq⟩:=h
 refine ⟨_,(a0e (a3s (PW.pt (c1q (b0t (a5u (c2b rfl a0t (pv 0) a8v b9d))) (b6n (a1e (a8n) (a2g (a4k) rfl a6t PySem.boot_len (a0a (pv 0) a0d)) a0p (a1r _))))) (a0k (a3x a3a a5r (a0a a1c a0d) rfl)) a1m)
   (a0e (a3s (PW.pt (c1q (b0t (a5u (c2b rfl a0t (a0z (a0s) (pv 0) a0p (fun _ _=>rfl)) b_str boot_str))) (b6n (a1e (op_notInTab) (a0z (a0s) (pv 0) a0p (fun _ _=>rfl)) (pe_gt a5p) rfl)))) (a0k (a3x a3a a5r (a0a a1c a0d) rfl)) a1m)
   (a0e (a0u (i:=1) b3x.nd rfl (Or.inl rfl) (b5s (sl_tup) (pv 0) (b7k a0p) c4p))
   (a0e (a3s (a1e (d4b) (a2g (a4k) rfl a6t PySem.boot_len (a0a (pv 1) a0d)) (a0z (ix_tab) (pe_gt a5p) (a0z (a0s) (pv 0) a0p (fun _ _=>rfl)) (fun _ _=>rfl)) (a1r _)) (a0k (a3x a3a a5r (a0a a1c a0d) rfl)) a1m)
   (a0e (a3s (b0t (a5u (a2g (b4x rfl) rfl b6s b9j (a0a (a7d (sc:=a0f b1a) rfl ⟨rfl,by decide +kernel,rfl,by decide +kernel,by decide +kernel,by decide +kernel,by decide +kernel⟩ (by show ("k":Str) ∉ (["words","at"]:List Str); decide +kernel) (by show (".0":Str) ∉ (["words","at"]:List Str); decide +kernel) b3x.nd rfl (pi_tup (pv 1)) (fun _ _ _ _=>a7j) (fun _ _ _ _=>(a1b a2d hr a0x (a0a (pv 0) a0d)))) a0d)))) (a0k (a3x a3a a5r (a0a a1c a0d) rfl)) a1m)
   (a0k (a3s (PW.pt (pw_and (a1e (a8n) (a2g (a4k) rfl a6t PySem.boot_len (a0a (pv 1) a0d)) a0p (a1r _)) (pw_and1 (a1e (a8n) (a0z (a0s) (pv 1) a0p (fun _ _=>rfl)) (a0z (a0s) (pv 1) a0p (fun _ _=>rfl)) (a1r _))))) (a0k (a3x a3a a5r (a0a a1c a0d) rfl)) a1m))))))),?_⟩
 fail "st";fail "go";have tl:Tab K a5m tabW:=a5p.2
 rcases hq with ⟨nw,hE⟩ | ⟨a,k,is,rfl,⟨ha,hl,hn⟩,hQ⟩
 ·cases nw with
  | kind ty kt=>
   refine a6n ty kt ?_;fail "go";exact ⟨by decide,hE H (a2c.refl _)⟩
  | empty ha=>
   refine a6n (a8a.tup ha) a1u ?_;have ha':=SqT.of (K:=K) ha;fail "go";refine ite_t rfl ?_;fail "go";exact ⟨by decide,hE H (a2c.refl _)⟩
  | first ha f m=>
   refine a6n (a8a.tup ha) a1u ?_;have ha':=SqT.of (K:=K) ha;fail "go";refine ite_f (fun z=>by first | (simp at z; done) | (simp at z; omega)) ?_;fail "go";exact ⟨by decide,hE H (a2c.refl _)⟩
  | word ha e fs f m=>
   refine a6n (a8a.tup ha) a1u ?_;have ha':=SqT.of (K:=K) ha;fail "go";refine ite_f (fun z=>by first | (simp at z; done) | (simp at z; omega)) ?_;fail "go";refine c3m tl ?_;rw [e];fail "go";exact ⟨by decide,hE H (a2c.refl _)⟩
  | @len a k xs ha l f m=>
   refine a6n (a8a.tup ha) a1u ?_;have ha':=SqT.of (K:=K) ha;fail "go";refine ite_f (fun z=>by first | (simp at z; done) | (simp at z; omega)) ?_;fail "go";refine c3m tl ?_;rw [b3b,show (true != (some (DK.n _:Int)).isSome) = false from rfl];fail "go";refine st_tl ha' (fun p hp=>?_);have hp':SqT K (upd H p (.tup xs)) p xs:=SqT.of a0c;fail "go";refine c8q tl (b3b k) ?_;fail "go";refine iteN (fun _=>?_) (fun c=>(l (by omega)).elim);fail "go";exact ⟨by decide,hE _ (a0b hp _)⟩
  | @part a k xs ha l f e=>
   refine a6n (a8a.tup ha) a1u ?_;have ha':=SqT.of (K:=K) ha;fail "go";refine ite_f (fun z=>by first | (simp at z; done) | (simp at z; omega)) ?_;fail "go";refine c3m tl ?_;rw [b3b,show (true != (some (DK.n _:Int)).isSome) = false from rfl];fail "go";refine st_tl ha' (fun p hp=>?_);have hp':SqT K (upd H p (.tup xs)) p xs:=SqT.of a0c;fail "go";refine c8q tl (b3b k) ?_;fail "go";refine iteN (fun c=>(c (by omega)).elim) (fun _=>?_);fail "go";refine b5v (fun P h=>⟨_,rfl,h⟩) hp' (fun i ys H'=>H' = upd H p (.tup xs)/\ys=((xs.take i).map wnB).map V.bl) (by have:=k.n_pos; omega) ⟨rfl,rfl⟩ ?_ ?_ ?_ ?_
   ·rintro i ys H' ⟨rfl,rfl⟩;rw [List.length_map,List.length_map,List.length_take];omega
   ·rintro i ys H' ⟨rfl,rfl⟩;exact hp'
   ·rintro i x ys H' hx ⟨rfl,rfl⟩;fail "go";refine ⟨x,wnB x,rfl,WN.flat K _ (okV_flat (all_get f hx)),rfl,?_⟩;rw [a1g hx,List.map_append,List.map_append];rfl
   ·rintro ys H' ⟨rfl,rfl⟩ p2 hp2;fail "go";refine c6d (bs:=(xs.take xs.length).map wnB) (SqL.of a0c) ?_;rw [List.take_length,all_id_map,e];fail "go";exact ⟨by decide,hE _ ((a0b hp _).trans (a0b hp2 _))⟩
  | @same a k i ha e=>
   refine a6n (a8a.tup ha) a1u ?_;have ha':=SqT.of (K:=K) ha;fail "go";refine ite_f (fun z=>by first | (simp at z; done) | (simp at z; omega)) ?_;fail "go";refine c3m tl ?_;rw [b3b,show (true != (some (DK.n _:Int)).isSome) = false from rfl];fail "go";refine st_tl ha' (fun p hp=>?_);have hp':SqT K (upd H p (.tup [.int i,.int i])) p [.int i,.int i]:=SqT.of a0c;fail "go";refine c8q tl (b3b k) ?_;fail "go";refine iteN (fun c=>(c (by rw [e]; rfl)).elim) (fun _=>?_);fail "go";refine b5v (fun P h=>⟨_,rfl,h⟩) hp' (fun j ys H'=>H' = upd H p (.tup [.int i,.int i])/\ys=([true,true].take j).map V.bl) (by show (2:Nat) <= 1000; decide) ⟨rfl,rfl⟩ ?_ ?_ ?_ ?_
   ·rintro j ys H' ⟨rfl,rfl⟩;rw [List.length_map,List.length_take];omega
   ·rintro j ys H' ⟨rfl,rfl⟩;exact hp'
   ·rintro j x ys H' hx ⟨rfl,rfl⟩;fail "go"
    rcases j with _ | _ | j
    ·cases hx;exact ⟨_,true,rfl,WN.int _ _ _,rfl,rfl⟩
    ·cases hx;exact ⟨_,true,rfl,WN.int _ _ _,rfl,rfl⟩
    ·simp at hx
   ·rintro ys H' ⟨rfl,rfl⟩ p2 hp2;fail "go";refine c6d (bs:=[true,true]) (SqL.of a0c) ?_;rw [show [true,true].all id=true from rfl];have hp3:SqT K (upd (upd H p (.tup [.int i,.int i])) p2 (.lst (List.map V.bl (List.take [V.int i,V.int i].length [true,true])))) p [.int i,.int i]:=(a0b hp2 _).tup hp';fail "go";refine ite_t rfl ?_;fail "go";refine ite_t rfl ?_;fail "go";exact ⟨by decide,hE _ ((a0b hp _).trans (a0b hp2 _))⟩
 ·refine a6n (a8a.tup ha) a1u ?_;have ha':=SqT.of (K:=K) ha;fail "go";refine ite_f (fun z=>by first | (simp at z; done) | (simp at z; omega)) ?_;fail "go";refine c3m tl ?_;rw [b3b,show (true != (some (DK.n _:Int)).isSome) = false from rfl];fail "go";refine st_tl ha' (fun p hp=>?_);have hp':SqT K (upd H p (.tup (is.map V.int))) p (is.map V.int):=SqT.of a0c;fail "go";refine c8q tl (b3b k) ?_;fail "go";rw [List.length_map];refine iteN (fun c=>(c (by omega)).elim) (fun _=>?_);fail "go";refine b5v (fun P h=>⟨_,rfl,h⟩) hp' (fun j ys H'=>H' = upd H p (.tup (is.map V.int))/\ys=(List.replicate j true).map V.bl) (by rw [List.length_map]; have:=k.n_pos; omega) ⟨rfl,rfl⟩ ?_ ?_ ?_ ?_
  ·rintro j ys H' ⟨rfl,rfl⟩;rw [List.length_map,List.length_replicate];omega
  ·rintro j ys H' ⟨rfl,rfl⟩;exact hp'
  ·rintro j x ys H' hx ⟨rfl,rfl⟩;fail "go";obtain ⟨i,rfl⟩:=int_get hx;refine ⟨_,true,rfl,WN.int _ _ _,rfl,?_⟩;rw [List.replicate_succ',List.map_append];rfl
  ·rintro ys H' ⟨rfl,rfl⟩ p2 hp2;fail "go";refine c6d (bs:=List.replicate (is.map V.int).length true) (SqL.of a0c) ?_;rw [d9e];have hS:a2c H (upd (upd H p (.tup (is.map V.int))) p2 (.lst ((List.replicate (is.map V.int).length true).map V.bl))):=(a0b hp _).trans (a0b hp2 _);have hp3:SqT K (upd (upd H p (.tup (is.map V.int))) p2 (.lst ((List.replicate (is.map V.int).length true).map V.bl))) p (is.map V.int):=(a0b hp2 _).tup hp';fail "go";refine b6p (fun c=>?_) (fun c=>?_)
   ·rw [List.length_map] at c;obtain ⟨i,j,rfl⟩:=len2 (l:=is) (by omega)
    have hij:¬ i=j:=by
     intro z;subst z;simp at hn
    fail "go";refine ite_f hij ?_;fail "go";exact hQ _ hS
   ·fail "go";exact hQ _ hS
include T_D k_Swap k_Over c2p k_Back k_Both d6h b0v b_min a3d in theorem c7s (F:Fun K "deed_of_words" "deed_of_words" b2e f fd):a2s P w K mg base (CXE P w) 4 f fd ["words"] (b6k K a8f a1n a1v):=by
 refine F.okE b6j (by fail "l1") (fun cdv A outer s H vs Q E hr h=>?_);obtain ⟨v,rfl,hq⟩:=h
 refine ⟨_,(a0e (a3f (a1b b0v hr c3z (a0a (pv 0) a0d)))
   (a0e (a3s (a1e (op_lt) (a2g (call_minL rfl) rfl b_min boot_min (a0a (b5s (sl_tup) (pv 0) (b7k a0p) c4p) a0d)) a0p (a1r _)) (a0k (a3x a3d a5r (a0a a1c a0d) rfl)) a1m)
   (a0e (a0u (i:=1) b6j.nd rfl (Or.inl rfl) (a0z (a0s) (pv 0) a0p (fun _ _=>rfl)))
   (a0e (a3s (a1e (a8n) (pv 1) a1c (a1r _)) (a0k (a0v (c0d k_Over hr a0x (a0a (a0z (a0s) (pv 0) a0p (fun _ _=>rfl)) a0d)))) a1m)
   (a0e (a3s (a1e (a8n) (pv 1) a1c (a1r _)) (a0k (a0v (c0d c2p hr a0x (a0a (a0z (a0s) (pv 0) a0p (fun _ _=>rfl)) a0d)))) a1m)
   (a0e (a3s (a1e (a8n) (pv 1) a1c (a1r _)) (a0k (a0v (c0d k_Back hr a0x (a0a (a0z (a0s) (pv 0) a0p (fun _ _=>rfl)) a0d)))) a1m)
   (a0e (a3s (a1e (a8n) (pv 1) a1c (a1r _)) (a0k (a0v (c0d k_Both hr a0x (a0a (a0z (a0s) (pv 0) a0p (fun _ _=>rfl)) a0d)))) a1m)
   (a0e (a3s (a1e (a8n) (pv 1) a1c (a1r _)) (a0k (a0v (c0d d6h hr a0x (a0a (a0z (a0s) (pv 0) a0p (fun _ _=>rfl)) (a0a (a0z (a0s) (pv 0) a0p (fun _ _=>rfl)) a0d))))) a1m)
   (a0k (a0v (c0d k_Swap hr a0x (a0a (a0z (a0s) (pv 0) a0p (fun _ _=>rfl)) (a0a (a0z (a0s) (pv 0) a0p (fun _ _=>rfl)) a0d))))))))))))),?_⟩
 fail "st";fail "go"
 rcases hq with ⟨nw,hE⟩ | ⟨a,k,is,rfl,wd,hQ,hE⟩
 ·exact ⟨v,rfl,.inl ⟨nw,hE⟩⟩
 ·refine ⟨_,rfl,.inr ⟨a,k,is,rfl,wd,fun H1 hS1=>?_⟩⟩;obtain ⟨ha,hl,hn⟩:=wd;have ha1:SqT K H1 a (.str k.word :: is.map V.int):=SqT.of (hS1 _ _ ha);have hk0:=k.n_pos;fail "go";refine st_tl ha1 (fun p hp=>?_);fail "go";refine st_bestT (ns:=is) (SqT.of a0c) (by omega) fun M hM hle=>?_;have hS2:a2c H (upd H1 p (.tup (is.map V.int))):=hS1.trans (a0b hp _);have ha2:SqT K (upd H1 p (.tup (is.map V.int))) a (.str k.word :: is.map V.int):=(a0b hp _).tup ha1;fail "go";refine b6p (fun c=>?_) (fun c=>?_)
  ·fail "go";exact ⟨by decide,hE (fun z=>by have:=z M hM; omega) _ hS2⟩
  ·have hpos:∀ i ∈ is,0 <= i:=fun i hi=>by have:=hle i hi; omega
   have hQ':=hQ hpos
   have fin1:∀ (x dx:Addr) (i:Int),is=[i]->(upd H1 p (.tup (is.map V.int))) x=none->(upd H1 p (.tup (is.map V.int))) dx=none->dx ≠ x->
     c1y K a8f k [.ref x,.int i] (upd (upd (upd H1 p (.tup (is.map V.int))) dx (.own x)) x (.ins (a8f k) dx [])) (fun v H2=>v=.non/\Q (.ref x) H2) E0:=by
    intro x dx i hi hx hdx hne;obtain ⟨j,rfl⟩:∃ j:Nat,i=(j:Int):=⟨i.toNat,by have:=hpos i (by rw [hi]; simp); omega⟩;refine ⟨x,j,rfl,dx,a0c,fun t ht=>⟨rfl,?_⟩⟩;refine hQ' x ⟨k,[j]⟩ _ (hS2.trans (same_init hx hdx ht)) ⟨dx,t,a0c,?_,by show 1=k.n; rw [<- hl,hi]; rfl⟩ rfl hi.symm;rw [a0q (Ne.symm (a0n a0c ht)),a0c]
   have fin2:∀ (x dx:Addr) (i i2:Int),is=[i,i2]->(upd H1 p (.tup (is.map V.int))) x=none->(upd H1 p (.tup (is.map V.int))) dx=none->dx ≠ x->
     d7w K a8f k [.ref x,.int i,.int i2] (upd (upd (upd H1 p (.tup (is.map V.int))) dx (.own x)) x (.ins (a8f k) dx [])) (fun v H2=>v=.non/\Q (.ref x) H2) E0:=by
    intro x dx i i2 hi hx hdx hne;obtain ⟨j,rfl⟩:∃ j:Nat,i=(j:Int):=⟨i.toNat,by have:=hpos i (by rw [hi]; simp); omega⟩;obtain ⟨j2,rfl⟩:∃ j:Nat,i2=(j:Int):=⟨i2.toNat,by have:=hpos i2 (by rw [hi]; simp); omega⟩;refine ⟨x,j,j2,rfl,dx,a0c,fun t ht=>⟨rfl,?_⟩⟩;refine hQ' x ⟨k,[j,j2]⟩ _ (hS2.trans (same_init hx hdx ht)) ⟨dx,t,a0c,?_,by show 2=k.n; rw [<- hl,hi]; rfl⟩ rfl hi.symm;rw [a0q (Ne.symm (a0n a0c ht)),a0c]
   cases k with
   | over=>
    obtain ⟨i,rfl⟩:=len1 hl;fail "kw";exact fun x dx hx hdx hne=>fin1 x dx i rfl hx hdx hne
   | quarter=>
    obtain ⟨i,rfl⟩:=len1 hl;fail "kw";exact fun x dx hx hdx hne=>fin1 x dx i rfl hx hdx hne
   | back=>
    obtain ⟨i,rfl⟩:=len1 hl;fail "kw";exact fun x dx hx hdx hne=>fin1 x dx i rfl hx hdx hne
   | both=>
    obtain ⟨i,rfl⟩:=len1 hl;fail "kw";exact fun x dx hx hdx hne=>fin1 x dx i rfl hx hdx hne
   | wher=>
    obtain ⟨i,i2,rfl⟩:=len2 hl;fail "kw";exact fun x dx hx hdx hne=>fin2 x dx i i2 rfl hx hdx hne
   | swap=>
    obtain ⟨i,i2,rfl⟩:=len2 hl;fail "kw";exact fun x dx hx hdx hne=>fin2 x dx i i2 rfl hx hdx hne
include a3d c1x a7v b_max in theorem ok_deed_of (F:Fun K "deed_of" "deed_of" c9n f fd):a2s P w K mg base (CXE P w) 5 f fd ["words","n"] (d5e K a8f a1n a1v):=by
 refine F.okE d5z (by fail "l2") (fun cdv A outer s H vs Q E hr h=>?_);obtain ⟨v,n,rfl,hq⟩:=h
 refine ⟨_,(a0e (a0u (i:=2) d5z.nd rfl (Or.inl rfl) (a1b a7v hr c3z (a0a (pv 0) a0d)))
   (a0e (a3s (a1e (op_ge) (a2g (call_maxL rfl) rfl b_max d8k (a0a (d5a c1x hr a0x (pv 2)) a0d)) (pv 1) (a1r _)) (a0k (a3x a3d a5r (a0a a1c a0d) rfl)) a1m)
   (a0k (a0v (pv 2))))),?_⟩
 fail "st";fail "go"
 rcases hq with ⟨nw,hE⟩ | ⟨a,k,is,rfl,wd,hQ,hE⟩
 ·exact ⟨v,rfl,.inl ⟨nw,hE⟩⟩
 ·refine ⟨_,rfl,.inr ⟨a,k,is,rfl,wd,fun hpos p d H1 hS1 hd hdk hdw=>?_,fun hneg H1 hS1=>hE (fun z=>hneg fun i hi=>(z i hi).1) H1 hS1⟩⟩;fail "go";obtain ⟨dx,t,hp,ht,hl⟩:=id hd;refine a5z hp (flds_no _ _ (by decide +kernel) (by decide +kernel) (by decide +kernel)) ?_;fail "go";refine ⟨p,d,rfl,hd,fun p2 hp2=>?_⟩;fail "go";have hk0:=d.k.n_pos;refine st_bestL (ns:=is) (by rw [<- hdw,<- d6k]; exact SqL.of a0c) (by rw [<- hdw,List.length_map]; omega) fun M hM hle=>?_;fail "go";refine b6p (fun c=>?_) (fun c=>?_)
  ·fail "go";exact ⟨by decide,hE (fun z=>by have:=z M hM; omega) _ (hS1.trans (a0b hp2 _))⟩
  ·fail "go";exact hQ (fun i hi=>⟨hpos i hi,by have:=hle i hi; omega⟩) p d _ (hS1.trans (a0b hp2 _)) (hd.same (a0b hp2 _)) hdk hdw
theorem ok_bit_at (F:Fun K "bit_at" "bit_at" d6b f fd):a2s P w K mg base CX0 1 f fd ["number","k"] (c9m K):=by
 refine F.ok sc_bit_at (by fail "l2") (fun cdv A outer s H vs Q E hr h=>?_);obtain ⟨n,k,rfl,q⟩:=h;refine ⟨_,(a0k (a0v (a0w (b0s) (a0w (op_shr) (pv 0) (pv 1)) a0p))),?_⟩;fail "go";exact q
include a1k in theorem ok_exchanged (F:Fun K "exchanged" "exchanged" c0y f fd):a2s P w K mg base CX0 2 f fd ["number","j","k"] (b7v K):=by
 refine F.ok c6h (by fail "l3") (fun cdv A outer s H vs Q E hr h=>?_);obtain ⟨n,i,j,rfl,hi,hj,q⟩:=h
 refine ⟨_,(a0e (a0u (i:=3) c6h.nd rfl (Or.inl rfl) (a0w (a4x) (a1b a1k hr a0x (a0a (pv 0) (a0a (pv 1) a0d))) (a1b a1k hr a0x (a0a (pv 0) (a0a (pv 2) a0d)))))
   (a0k (a0v (a0w (a4x) (a0w (a4x) (pv 0) (a0w (a8k) (pv 3) (pv 1))) (a0w (a8k) (pv 3) (pv 2)))))),?_⟩
 fail "go";refine ⟨n,i,rfl,?_⟩;fail "go";refine ⟨n,j,rfl,?_⟩;fail "go";exact q
include a1k T_D a8j a8g a1y in theorem d3k (F:Fun K "on_row" "Over.on_row" b5p f fd):a2s P w K mg base CX0 2 f fd ["self","row"] (d3w K a8f):=by
 refine F.ok d3z (by fail "l4") (fun cdv A outer s H vs Q E hr h=>?_);obtain ⟨a,b,⟨k,w⟩,r,rfl,hk,⟨dx,t,ha,ht,hl⟩,hw,hb,q⟩:=h;dsimp only at hk ha ht hl hw;subst hk;obtain ⟨i,rfl⟩:=b1c hl;have hi:i <= 1000:=hw i (by simp);have ht':SqT K H t [.int (i:Nat)]:=SqT.of ht;refine ⟨_,(a0k (a0v (a1w (a0a (a0w (a4x) (a0z (a0s) (pv 1) (a2j a1y) (fun _ _=>rfl)) (a1b a1k hr a0x (a0a (a0z (a0s) (pv 1) (a2j a8g) (fun _ _=>rfl)) (a0a (a0z (a0s) (a2y (pv 0) rfl) a0p (fun _ _=>rfl)) a0d)))) (a0a (a0z (a0s) (pv 1) (a2j a8j) (fun _ _=>rfl)) (a0a (a0z (a0s) (pv 1) (a2j a8g) (fun _ _=>rfl)) a0d)))))),?_⟩;fail "st";unfold Row.V at hb;fail "go";refine a2b ha (T_D.cl _) (T_D.n_at _) (a5y _ _) ?_;fail "go";refine ⟨r.z,i,rfl,?_⟩;fail "go";rename_i p hp;exact q p _ (a0b hp _) a0c
include a1k T_D a8j a8g a1y in theorem c4w (F:Fun K "on_row" "Quarter.on_row" b0c f fd):a2s P w K mg base CX0 2 f fd ["self","row"] (c4y K a8f):=by
 refine F.ok a6m (by fail "l4") (fun cdv A outer s H vs Q E hr h=>?_);obtain ⟨a,b,⟨k,w⟩,r,rfl,hk,⟨dx,t,ha,ht,hl⟩,hw,hb,q⟩:=h;dsimp only at hk ha ht hl hw;subst hk;obtain ⟨i,rfl⟩:=b1c hl;have hi:i <= 1000:=hw i (by simp);have ht':SqT K H t [.int (i:Nat)]:=SqT.of ht
 refine ⟨_,(a0e (a0u (i:=2) a6m.nd rfl (Or.inl rfl) (a0z (a0s) (a2y (pv 0) rfl) a0p (fun _ _=>rfl)))
   (a0e (a0u (i:=3) a6m.nd rfl (Or.inl rfl) (a1b a1k hr a0x (a0a (a0z (a0s) (pv 1) (a2j a8j) (fun _ _=>rfl)) (a0a (pv 2) a0d))))
   (a0e (a0u (i:=4) a6m.nd rfl (Or.inl rfl) (a1b a1k hr a0x (a0a (a0z (a0s) (pv 1) (a2j a8g) (fun _ _=>rfl)) (a0a (pv 2) a0d))))
   (a0k (a0v (a1w (a0a (a0w (a4x) (a0z (a0s) (pv 1) (a2j a1y) (fun _ _=>rfl)) (a0w (b0s) (pv 3) (pv 4))) (a0a (a0z (a0s) (pv 1) (a2j a8j) (fun _ _=>rfl)) (a0a (a0w (a4x) (a0z (a0s) (pv 1) (a2j a8g) (fun _ _=>rfl)) (a0w (a8k) (pv 3) (pv 2))) a0d))))))))),?_⟩
 fail "st";unfold Row.V at hb;fail "go";refine a2b ha (T_D.cl _) (T_D.n_at _) (a5y _ _) ?_;fail "go";refine ⟨r.x,i,rfl,?_⟩;fail "go";refine ⟨r.z,i,rfl,?_⟩;fail "go";rename_i p hp;exact q p _ (a0b hp _) a0c
include a1k T_D a8j a8g a1y in theorem d3d (F:Fun K "on_row" "Back.on_row" b5w f fd):a2s P w K mg base CX0 2 f fd ["self","row"] (d3f K a8f):=by
 refine F.ok a9g (by fail "l4") (fun cdv A outer s H vs Q E hr h=>?_);obtain ⟨a,b,⟨k,w⟩,r,rfl,hk,⟨dx,t,ha,ht,hl⟩,hw,hb,q⟩:=h;dsimp only at hk ha ht hl hw;subst hk;obtain ⟨i,rfl⟩:=b1c hl;have hi:i <= 1000:=hw i (by simp);have ht':SqT K H t [.int (i:Nat)]:=SqT.of ht
 refine ⟨_,(a0e (a0u (i:=2) a9g.nd rfl (Or.inl rfl) (a0z (a0s) (a2y (pv 0) rfl) a0p (fun _ _=>rfl)))
   (a0e (a0u (i:=3) a9g.nd rfl (Or.inl rfl) (a1b a1k hr a0x (a0a (a0z (a0s) (pv 1) (a2j a8j) (fun _ _=>rfl)) (a0a (pv 2) a0d))))
   (a0e (a0u (i:=4) a9g.nd rfl (Or.inl rfl) (a1b a1k hr a0x (a0a (a0z (a0s) (pv 1) (a2j a8g) (fun _ _=>rfl)) (a0a (pv 2) a0d))))
   (a0k (a0v (a1w (a0a (a0w (a4x) (a0z (a0s) (pv 1) (a2j a1y) (fun _ _=>rfl)) (a0w (b0s) (pv 3) (a0w (d4u) a0p (pv 4)))) (a0a (a0z (a0s) (pv 1) (a2j a8j) (fun _ _=>rfl)) (a0a (a0w (a4x) (a0z (a0s) (pv 1) (a2j a8g) (fun _ _=>rfl)) (a0w (a8k) (pv 3) (pv 2))) a0d))))))))),?_⟩
 fail "st";unfold Row.V at hb;fail "go";refine a2b ha (T_D.cl _) (T_D.n_at _) (a5y _ _) ?_;fail "go";refine ⟨r.x,i,rfl,?_⟩;fail "go";refine ⟨r.z,i,rfl,?_⟩;fail "go";rename_i p hp;exact q p _ (a0b hp _) a0c
include a1k T_D a8j a8g a1y in theorem d3h (F:Fun K "on_row" "Both.on_row" b5z f fd):a2s P w K mg base CX0 2 f fd ["self","row"] (d4d K a8f):=by
 refine F.ok a6y (by fail "l4") (fun cdv A outer s H vs Q E hr h=>?_);obtain ⟨a,b,⟨k,w⟩,r,rfl,hk,⟨dx,t,ha,ht,hl⟩,hw,hb,q⟩:=h;dsimp only at hk ha ht hl hw;subst hk;obtain ⟨i,rfl⟩:=b1c hl;have hi:i <= 1000:=hw i (by simp);have ht':SqT K H t [.int (i:Nat)]:=SqT.of ht
 refine ⟨_,(a0e (a0u (i:=2) a6y.nd rfl (Or.inl rfl) (a0z (a0s) (a2y (pv 0) rfl) a0p (fun _ _=>rfl)))
   (a0e (a0u (i:=3) a6y.nd rfl (Or.inl rfl) (a1b a1k hr a0x (a0a (a0z (a0s) (pv 1) (a2j a8j) (fun _ _=>rfl)) (a0a (pv 2) a0d))))
   (a0e (a0u (i:=4) a6y.nd rfl (Or.inl rfl) (a1b a1k hr a0x (a0a (a0z (a0s) (pv 1) (a2j a8g) (fun _ _=>rfl)) (a0a (pv 2) a0d))))
   (a0e (a0u (i:=5) a6y.nd rfl (Or.inl rfl) (a0w (a8k) (a0w (a4x) (pv 3) (pv 4)) (pv 2)))
   (a0k (a0v (a1w (a0a (a0w (a4x) (a0z (a0s) (pv 1) (a2j a1y) (fun _ _=>rfl)) (a0w (b0s) (pv 3) (pv 4))) (a0a (a0w (a4x) (a0z (a0s) (pv 1) (a2j a8j) (fun _ _=>rfl)) (pv 5)) (a0a (a0w (a4x) (a0z (a0s) (pv 1) (a2j a8g) (fun _ _=>rfl)) (pv 5)) a0d)))))))))),?_⟩
 fail "st";unfold Row.V at hb;fail "go";refine a2b ha (T_D.cl _) (T_D.n_at _) (a5y _ _) ?_;fail "go";refine ⟨r.x,i,rfl,?_⟩;fail "go";refine ⟨r.z,i,rfl,?_⟩;fail "go";rename_i p hp;exact q p _ (a0b hp _) a0c
include a1k T_D a8j a8g a1y in theorem d1z (F:Fun K "on_row" "Where.on_row" b4c f fd):a2s P w K mg base CX0 2 f fd ["self","row"] (c9f K a8f):=by
 refine F.ok a4y (by fail "l4") (fun cdv A outer s H vs Q E hr h=>?_);obtain ⟨a,b,⟨k,w⟩,r,rfl,hk,⟨dx,t,ha,ht,hl⟩,hw,hb,q⟩:=h;dsimp only at hk ha ht hl hw;subst hk;obtain ⟨i,j,rfl⟩:=b8f hl;have hi:i <= 1000:=hw i (by simp);have hj:j <= 1000:=hw j (by simp);have ht':SqT K H t [.int (i:Nat),.int (j:Nat)]:=SqT.of ht
 refine ⟨_,(a0e (a0u (i:=2) a4y.nd rfl (Or.inl rfl) (a0z (a0s) (a2y (pv 0) rfl) a0p (fun _ _=>rfl)))
   (a0e (a0u (i:=3) a4y.nd rfl (Or.inl rfl) (a0z (a0s) (a2y (pv 0) rfl) a0p (fun _ _=>rfl)))
   (a0e (a0u (i:=4) a4y.nd rfl (Or.inl rfl) (a1b a1k hr a0x (a0a (a0z (a0s) (pv 1) (a2j a8j) (fun _ _=>rfl)) (a0a (pv 2) a0d))))
   (a0e (a0u (i:=5) a4y.nd rfl (Or.inl rfl) (a1b a1k hr a0x (a0a (a0z (a0s) (pv 1) (a2j a8g) (fun _ _=>rfl)) (a0a (pv 3) a0d))))
   (a0e (a0u (i:=6) a4y.nd rfl (Or.inl rfl) (a0w (d4u) a0p (a0w (a4x) (a1b a1k hr a0x (a0a (a0z (a0s) (pv 1) (a2j a8g) (fun _ _=>rfl)) (a0a (pv 2) a0d))) (a1b a1k hr a0x (a0a (a0z (a0s) (pv 1) (a2j a8j) (fun _ _=>rfl)) (a0a (pv 3) a0d))))))
   (a0k (a0v (a1w (a0a (a0w (a4x) (a0z (a0s) (pv 1) (a2j a1y) (fun _ _=>rfl)) (a0w (b0s) (a0w (b0s) (pv 4) (pv 5)) (pv 6))) (a0a (a0w (a4x) (a0z (a0s) (pv 1) (a2j a8j) (fun _ _=>rfl)) (a0w (a8k) (pv 4) (pv 3))) (a0a (a0w (a4x) (a0z (a0s) (pv 1) (a2j a8g) (fun _ _=>rfl)) (a0w (a8k) (pv 5) (pv 2))) a0d))))))))))),?_⟩
 fail "st";unfold Row.V at hb;fail "go";refine a2b ha (T_D.cl _) (T_D.n_at _) (a5y _ _) ?_;fail "go";refine a2b ha (T_D.cl _) (T_D.n_at _) (a5y _ _) ?_;fail "go";refine ⟨r.x,i,rfl,?_⟩;fail "go";refine ⟨r.z,j,rfl,?_⟩;fail "go";refine ⟨r.z,i,rfl,?_⟩;fail "go";refine ⟨r.x,j,rfl,?_⟩;fail "go";rename_i p hp;exact q p _ (a0b hp _) a0c
include T_D a8j a8g a1y a6b in theorem d3q (F:Fun K "on_row" "Swap.on_row" b5m f fd):a2s P w K mg base CX0 3 f fd ["self","row"] (d3m K a8f):=by
 refine F.ok b3q (by fail "l4") (fun cdv A outer s H vs Q E hr h=>?_);obtain ⟨a,b,⟨k,w⟩,r,rfl,hk,⟨dx,t,ha,ht,hl⟩,hw,hb,q⟩:=h;dsimp only at hk ha ht hl hw;subst hk;obtain ⟨i,j,rfl⟩:=b8f hl;have hi:i <= 1000:=hw i (by simp);have hj:j <= 1000:=hw j (by simp);have ht':SqT K H t [.int (i:Nat),.int (j:Nat)]:=SqT.of ht
 refine ⟨_,(a0e (a0u (i:=2) b3q.nd rfl (Or.inl rfl) (a0z (a0s) (a2y (pv 0) rfl) a0p (fun _ _=>rfl)))
   (a0e (a0u (i:=3) b3q.nd rfl (Or.inl rfl) (a0z (a0s) (a2y (pv 0) rfl) a0p (fun _ _=>rfl)))
   (a0k (a0v (a1w (a0a (a0z (a0s) (pv 1) (a2j a1y) (fun _ _=>rfl)) (a0a (a1b a6b hr a0x (a0a (a0z (a0s) (pv 1) (a2j a8j) (fun _ _=>rfl)) (a0a (pv 2) (a0a (pv 3) a0d)))) (a0a (a1b a6b hr a0x (a0a (a0z (a0s) (pv 1) (a2j a8g) (fun _ _=>rfl)) (a0a (pv 2) (a0a (pv 3) a0d)))) a0d)))))))),?_⟩
 fail "st";unfold Row.V at hb;fail "go";refine a2b ha (T_D.cl _) (T_D.n_at _) (a5y _ _) ?_;fail "go";refine a2b ha (T_D.cl _) (T_D.n_at _) (a5y _ _) ?_;fail "go";refine ⟨r.x,i,j,rfl,hi,hj,?_⟩;fail "go";refine ⟨r.z,i,j,rfl,hi,hj,?_⟩;fail "go";rename_i p hp;exact q p _ (a0b hp _) a0c
theorem ok_times_i (F:Fun K "times_i" "times_i" d0w f fd):a2s P w K mg base CX0 1 f fd ["pair","often"] (d5g K):=by
 refine F.ok d4v (by fail "l3") (fun cdv A outer s H vs Q E hr h=>?_);obtain ⟨a,o,p,rfl,ha,q⟩:=h
 refine ⟨_,(a0e (a0u (i:=2) d4v.nd rfl (Or.inl rfl) (a0w (a6r) (pv 1) a0p))
   (a0e (a3s (a1e (a8n) (pv 2) a0p (a1r _)) (a0k (a0v (a1w (a0a (pe_un d2z (a0z (a0s) (pv 0) a0p (fun _ _=>rfl))) (a0a (a0z (a0s) (pv 0) a0p (fun _ _=>rfl)) a0d))))) a1m)
   (a0e (a3s (a1e (a8n) (pv 2) a0p (a1r _)) (a0k (a0v (a1w (a0a (pe_un d2z (a0z (a0s) (pv 0) a0p (fun _ _=>rfl))) (a0a (pe_un d2z (a0z (a0s) (pv 0) a0p (fun _ _=>rfl))) a0d))))) a1m)
   (a0e (a3s (a1e (a8n) (pv 2) a0p (a1r _)) (a0k (a0v (a1w (a0a (a0z (a0s) (pv 0) a0p (fun _ _=>rfl)) (a0a (pe_un d2z (a0z (a0s) (pv 0) a0p (fun _ _=>rfl))) a0d))))) a1m)
   (a0k (a0v (pv 0))))))),?_⟩
 fail "st";have em:((o:Nat):Int) % 4=((o % 4:Nat):Int):=by omega
 fail "go";have ht:∀ k:Nat,o % 4=k % 4->c0v o p=c0v k p:=fun k e=>turn_mod e p;refine b6p (fun c=>?_) (fun c=>?_)
 ·fail "go";rename_i t kt;exact q t _ (a0b kt _) (by rw [ht 1 (by omega)]; exact SqT.of a0c)
 ·fail "go";refine b6p (fun c=>?_) (fun c=>?_)
  ·fail "go";rename_i t kt;exact q t _ (a0b kt _) (by rw [ht 2 (by omega)]; exact SqT.of a0c)
  ·fail "go";refine b6p (fun c=>?_) (fun c=>?_)
   ·fail "go";rename_i t kt;exact q t _ (a0b kt _) (by rw [ht 3 (by omega)]; exact SqT.of a0c)
   ·fail "go";exact q a H (a2c.refl _) (by rw [ht 0 (by omega)]; exact ha)
theorem ok_add_at (F:Fun K "add_at" "add_at" d7n f fd):a2s P w K mg base CX0 1 f fd ["whole","b","pair"] (c9r K):=by
 refine F.ok sc_add_at (by fail "l3") (fun cdv A outer s H vs Q E hr h=>?_);obtain ⟨f,a,b,rfl,p,ws,kvs,ha,hf,hw,hl,q⟩:=h
 refine ⟨_,(a0e (a0u (i:=3) sc_add_at.nd rfl (Or.inl rfl) (pe_dget2 (hu_of hr) (pv 0) (pv 1) (a1w (a0a a0p (a0a a0p a0d))) ⟨rfl,rfl,rfl,rfl⟩))
   (a0k (d2t (hu_of hr) (pv 0) (pv 1) (a1w (a0a (a0w (a7p) (a0z (a0s) (pv 3) a0p (fun _ _=>rfl)) (a0z (a0s) (pv 2) a0p (fun _ _=>rfl))) (a0a (a0w (a7p) (a0z (a0s) (pv 3) a0p (fun _ _=>rfl)) (a0z (a0s) (pv 2) a0p (fun _ _=>rfl))) a0d))) rfl))),?_⟩
 fail "st";fail "go";refine ⟨f,rfl,.inl ⟨kvs,.inl hf⟩,?_⟩;fail "go";rename_i p1 hp1;have hf1:upd H p1 (.tup [.int 0,.int 0]) f=some (.dK kvs):=a0b hp1 _ _ _ hf;have ha1:=(a0b hp1 (.tup [.int 0,.int 0])).tup ha;refine ⟨_,dget_z (.inl hf1),?_⟩
 have fin:∀ p2 (x:Int × Int),(upd H p1 (.tup [.int 0,.int 0])) p2=none->x=(wat ws b).getD (0,0)->
   Q .non (upd (upd (upd H p1 (.tup [.int 0,.int 0])) p2 (.tup [.int (x.1 + p.1),.int (x.2 + p.2)])) f (.dK (d1s kvs (.inl ((b:Nat):Int)) (.ref p2)))):=fun p2 x hp2 hx=>by
  have hS2:=(a0b hp1 (.tup [.int 0,.int 0])).trans (a0b hp2 (.tup [.int (x.1 + p.1),.int (x.2 + p.2)]));have hf2:=hS2 _ _ hf
  have hB:But f (upd (upd H p1 (.tup [.int 0,.int 0])) p2 (.tup [.int (x.1 + p.1),.int (x.2 + p.2)])) (upd (upd (upd H p1 (.tup [.int 0,.int 0])) p2 (.tup [.int (x.1 + p.1),.int (x.2 + p.2)])) f (.dK (d1s kvs (.inl ((b:Nat):Int)) (.ref p2)))):=fun c o hc e=>by
   rw [a0q hc];exact e
  refine q _ _ a0c ?_ (But.of hS2 hB);have hw2:=hw.stay (K:=K) (H':=upd (upd H p1 (.tup [.int 0,.int 0])) p2 (.tup [.int (x.1 + p.1),.int (x.2 + p.2)])) fun a xs s=>hS2.tup s;have hw3:=hw2.put (b:=b) (p:=(x.1 + p.1,x.2 + p.2)) (a:=p2) (SqT.of a0c);unfold wadd;rw [<- hx];exact hw3.stay (hB.tup hf2)
 rcases hw.val b with ⟨e1,e2⟩ | ⟨a',p',e1,e2,e3⟩
 ·rw [show atZ kvs ((b:Nat):Int) = none from e1];have h01:SqT K (upd H p1 (.tup [.int 0,.int 0])) p1 [.int 0,.int 0]:=SqT.of a0c;rw [show Option.getD (none:Option V) (V.ref p1) = V.ref p1 from rfl];fail "go";rename_i p2 hp2;refine ⟨f,_,rfl,d5s (a0b hp2 _ _ _ hf1) (by rw [hw.len]; omega),?_⟩;fail "go";have z:=fin p2 (0,0) hp2 (by rw [e2]; rfl)
  simpa using z
 ·rw [show atZ kvs ((b:Nat):Int) = some (.ref a') from e1];have h01:=(a0b hp1 (.tup [.int 0,.int 0])).tup e2;rw [show Option.getD (some (V.ref a')) (V.ref p1) = V.ref a' from rfl];fail "go";rename_i p2 hp2;refine ⟨f,_,rfl,d5s (a0b hp2 _ _ _ hf1) (by rw [hw.len]; omega),?_⟩;fail "go";exact fin p2 p' hp2 (by rw [e3]; rfl)
theorem c2a (F:Fun K "without_noughts" "without_noughts" a8q f fd):a2s P w K mg base CX0 1 f fd ["whole"] (b2u K):=by
 refine F.ok a5t (by fail "l2") (fun cdv A outer s H vs Q E hr h=>?_);obtain ⟨a,ws,rfl,⟨kvs,ha,hWR⟩,nd,hl,q⟩:=h
 refine ⟨_,(a0e (a0u (i:=1) a5t.nd rfl (Or.inl rfl) c0p)
   (a0e (c4v (b4k PassesOwn.never rfl (b9k (pv 0)) (c0h rfl (a2x (a2r (i:=2) a5t.nd rfl (Or.inl rfl)) (a2x (a2r (i:=3) a5t.nd rfl (Or.inl rfl)) b4d))) (a0k (a3s (a1e (d2k (b3u hr)) (pv 3) (a1w (a0a a0p (a0a a0p a0d))) (a1r _)) (a0k (d2t (hu_of hr) (pv 1) (pv 2) (pv 3) rfl)) a1m))))
   (a0k (a0v (pv 1))))),?_⟩
 fail "st";fail "go";rename_i p hp;have hpa:p ≠ a:=Ne.symm (a0n ha hp);refine a7q (fun P h=>⟨_,rfl,h⟩) (a0b hp _ _ _ ha) (fun o i σ H'=>∃ (u0 u1:Option V) (kvs':List (Key × V)),σ=[some (.ref a),some (.ref p),u0,u1]/\H' a=some (.frz o (.dK kvs))/\H' p=some (.dK kvs')/\WR K H' (wnz (ws.take i)) kvs'/\But a H H') ?_ ?_ ?_ ?_
 ·intro o;refine ⟨none,none,[],rfl,a0c,by rw [a0q hpa]; exact a0c,.nil,fun c o' hc e=>?_⟩;rw [a0q hc];exact a0b hp _ _ _ e
 ·rintro o i σ H' ⟨u0,u1,kvs',_,h1,_⟩;exact h1
 ·rintro o i k v σ H' x hget ⟨u0,u1,kvs',rfl,h1,h2,h3,h5⟩ hx;obtain ⟨b,pp,a',e1,rfl,rfl,sq⟩:=hWR.get hget;have hil:i < ws.length:=(List.getElem?_eq_some_iff.mp e1).1;have sq':SqT K (upd H' x (.tup [kV (.inl ((b:Nat):Int)),.ref a'])) a' [.int pp.1,.int pp.2]:=(a0b hx _).tup (h5.tup ha _ _ sq);have hp2:=a0b hx (.tup [kV (.inl ((b:Nat):Int)),.ref a']) _ _ h2;have ha2:=a0b hx (.tup [kV (.inl ((b:Nat):Int)),.ref a']) _ _ h1;have hB2:But a H (upd H' x (.tup [kV (.inl ((b:Nat):Int)),.ref a'])):=fun c o' hc e=>a0b hx _ _ _ (h5 _ _ hc e);have h3':=h3.stay (K:=K) (H':=upd H' x (.tup [kV (.inl ((b:Nat):Int)),.ref a'])) (fun y ys s=>(a0b hx _).tup s);have ht0:SqT K (upd H' x (.tup [kV (.inl ((b:Nat):Int)),.ref a'])) x [.int ((b:Nat):Int),.ref a']:=SqT.of a0c;generalize upd H' x (.tup [kV (.inl ((b:Nat):Int)),.ref a']) = G at sq' hp2 ha2 hB2 h3' ht0 ⊢;fail "go";rename_i p0 hp0;have n0:=a0b hp0 (.tup [.int 0,.int 0]);have hst:=wnz_step nd e1;have hlen:=h3'.len;have hle:=wnz_len (ws.take i);rw [List.length_take] at hle
  by_cases c:pp=(0,0)
  ·rw [if_neg (fun z=>z c)] at hst;subst c;fail "go";refine ⟨_,_,kvs',rfl,n0 _ _ ha2,n0 _ _ hp2,?_,fun c o' hc e=>n0 _ _ (hB2 _ _ hc e)⟩;rw [hst];exact h3'.stay (fun y ys s=>n0.tup s)
  ·rw [if_pos c] at hst
   have ec:(!decide ([pp.1,pp.2] = [(0:Int),0])) = true:=by
    rw [dec_pair pp (0,0),decide_eq_false c];rfl
   rw [ec];fail "go";have hB:But p (upd G p0 (.tup [.int 0,.int 0])) (upd (upd G p0 (.tup [.int 0,.int 0])) p (.dK (d1s kvs' (.inl ((b:Nat):Int)) (.ref a')))):=But.upd;refine ⟨p,_,rfl,d5s (n0 _ _ hp2) (by omega),_,_,_,rfl,hB _ _ (Ne.symm hpa) (n0 _ _ ha2),a0c,?_,fun c o' hc e=>hB _ _ (a0n e hp) (n0 _ _ (hB2 _ _ hc e))⟩;rw [hst];exact ((h3'.stay (fun y ys s=>n0.tup s)).stay (fun y ys s=>hB.tup (n0 _ _ hp2) y ys s)).put (hB.tup (n0 _ _ hp2) _ _ (n0.tup sq'))
 ·rintro o σ H' ⟨u0,u1,kvs',rfl,h1,h2,h3,h5⟩;rw [hWR.len,List.take_length] at h3
  have SS:a2c H (upd H' a (.dK kvs)):=fun c o' e=>by
   by_cases hc:c=a
   ·subst hc;rw [ha] at e;rw [a0c];exact e
   ·rw [a0q hc];exact h5 _ _ hc e
  have hW:a9d K (upd H' a (.dK kvs)) p (wnz ws):=⟨kvs',by rw [a0q hpa]; exact h2,h3.stay (c4m h1)⟩;fail "go";exact q p _ SS hp hW
include a1h h_lam in theorem ok_moved (F:Fun K "moved" "moved" s_moved f fd):a2s P w K mg base CX0 4 f fd ["whole","place_of"] (sp_moved K):=by
 refine F.ok c8h (by fail "l4") (fun cdv A outer s H vs Q E hr h=>?_);obtain ⟨a,f1,ws,g,rfl,⟨kvs,ha,hWR⟩,nd,hl,hG,q⟩:=h
 refine ⟨_,(a0e (a0u (i:=2) c8h.nd rfl (Or.inl rfl) c0p)
   (a0e (c4v (b4k PassesOwn.never rfl (b9k (pv 0)) (c0h rfl (a2x (a2r (i:=3) c8h.nd rfl (Or.inl rfl)) (a2x (a2r (i:=4) c8h.nd rfl (Or.inl rfl)) b4d))) (a0k (d2t (hu_of hr) (pv 2) (pe_callF 1 h_lam hr (a0a (pv 3) a0d)) (pv 4) rfl))))
   (a0k (a0v (a1b a1h hr a0x (a0a (pv 2) a0d)))))),?_⟩
 fail "st";fail "go";rename_i p hp;have hpa:p ≠ a:=Ne.symm (a0n ha hp);refine a7q (fun P h=>⟨_,rfl,h⟩) (a0b hp _ _ _ ha) (fun o i σ H'=>∃ (u0 u1:Option V) (kvs':List (Key × V)),σ=[some (.ref a),some (.ref f1),some (.ref p),u0,u1]/\H' a=some (.frz o (.dK kvs))/\H' p=some (.dK kvs')/\WR K H' ((ws.take i).map fun e=>(g e.1,e.2)) kvs'/\But a H H') ?_ ?_ ?_ ?_
 ·intro o;refine ⟨none,none,[],rfl,a0c,by rw [a0q hpa]; exact a0c,.nil,fun c o' hc e=>?_⟩;rw [a0q hc];exact a0b hp _ _ _ e
 ·rintro o i σ H' ⟨u0,u1,kvs',_,h1,_⟩;exact h1
 ·rintro o i k v σ H' x hget ⟨u0,u1,kvs',rfl,h1,h2,h3,h5⟩ hx;obtain ⟨b,pp,a',e1,rfl,rfl,sq⟩:=hWR.get hget;have hil:i < ws.length:=(List.getElem?_eq_some_iff.mp e1).1;have sq':SqT K (upd H' x (.tup [kV (.inl ((b:Nat):Int)),.ref a'])) a' [.int pp.1,.int pp.2]:=(a0b hx _).tup (h5.tup ha _ _ sq);have hp2:=a0b hx (.tup [kV (.inl ((b:Nat):Int)),.ref a']) _ _ h2;have ha2:=a0b hx (.tup [kV (.inl ((b:Nat):Int)),.ref a']) _ _ h1;have hB2:But a H (upd H' x (.tup [kV (.inl ((b:Nat):Int)),.ref a'])):=fun c o' hc e=>a0b hx _ _ _ (h5 _ _ hc e);have h3':=h3.stay (K:=K) (H':=upd H' x (.tup [kV (.inl ((b:Nat):Int)),.ref a'])) (fun y ys s=>(a0b hx _).tup s);have ht0:SqT K (upd H' x (.tup [kV (.inl ((b:Nat):Int)),.ref a'])) x [.int ((b:Nat):Int),.ref a']:=SqT.of a0c;generalize upd H' x (.tup [kV (.inl ((b:Nat):Int)),.ref a']) = G at sq' hp2 ha2 hB2 h3' ht0 ⊢;have hGG:LamG G f1 g:=hG.ex fun c o' e=>hB2 _ _ (c6y e ha (by intro z; cases z)) e;obtain ⟨fo,ffd,hfo,hfd⟩:=hGG.fn;fail "go";refine st_callF rfl hfo hfd ?_;fail "go";refine ⟨b,g,rfl,hGG,?_⟩;have hB:But p G (upd G p (.dK (d1s kvs' (.inl ((g b:Nat):Int)) (.ref a')))):=But.upd;have hlen:=h3'.len;rw [List.length_map,List.length_take] at hlen;fail "go";refine ⟨p,_,rfl,d5s hp2 (by omega),_,_,_,rfl,hB _ _ (Ne.symm hpa) ha2,a0c,?_,fun c o' hc e=>hB _ _ (a0n e hp) (hB2 _ _ hc e)⟩;rw [d6r (f:=fun e=>(g e.1,e.2)) nd e1];exact (h3'.stay (fun y ys s=>hB.tup hp2 y ys s)).put (hB.tup hp2 _ _ sq')
 ·rintro o σ H' ⟨u0,u1,kvs',rfl,h1,h2,h3,h5⟩;rw [hWR.len,List.take_length] at h3
  have SS:a2c H (upd H' a (.dK kvs)):=fun c o' e=>by
   by_cases hc:c=a
   ·subst hc;rw [ha] at e;rw [a0c];exact e
   ·rw [a0q hc];exact h5 _ _ hc e
  have hW:a9d K (upd H' a (.dK kvs)) p (ws.map fun e=>(g e.1,e.2)):=⟨kvs',by rw [a0q hpa]; exact h2,h3.stay (c4m h1)⟩;fail "go";refine ⟨p,_,rfl,hW,by rw [List.map_map]; exact nd,by rw [List.length_map]; exact hl,fun p2 H2 s2 np2 hW2=>?_⟩;fail "go";exact q p2 H2 (SS.trans s2) (b5g SS np2) hW2
include a1k a1h a6v in theorem b9u (F:Fun K "turned_where_down" "turned_where_down" a7c f fd):a2s P w K mg base CX0 2 f fd ["whole","k","often"] (b0r K):=by
 refine F.ok a4t (by fail "l4") (fun cdv A outer s H vs Q E hr h=>?_);obtain ⟨a,k,often,ws,rfl,⟨kvs,ha,hWR⟩,nd,hl,hk,ho,q⟩:=h
 refine ⟨_,(a0e (a0u (i:=3) a4t.nd rfl (Or.inl rfl) c0p)
   (a0e (c4v (b4k PassesOwn.never rfl (b9k (pv 0)) (c0h rfl (a2x (a2r (i:=4) a4t.nd rfl (Or.inl rfl)) (a2x (a2r (i:=5) a4t.nd rfl (Or.inl rfl)) b4d))) (a0k (d2t (hu_of hr) (pv 3) (pv 4) (a1b a6v hr a0x (a0a (pv 5) (a0a (a0w (op_mul) (pv 2) (a1b a1k hr a0x (a0a (pv 4) (a0a (pv 1) a0d)))) a0d))) rfl))))
   (a0k (a0v (a1b a1h hr a0x (a0a (pv 3) a0d)))))),?_⟩
 fail "st";fail "go";rename_i p hp;have hpa:p ≠ a:=Ne.symm (a0n ha hp);refine a7q (fun P h=>⟨_,rfl,h⟩) (a0b hp _ _ _ ha) (fun o i σ H'=>∃ (u0 u1:Option V) (kvs':List (Key × V)),σ=[some (.ref a),some (.int k),some (.int often),some (.ref p),u0,u1]/\H' a=some (.frz o (.dK kvs))/\H' p=some (.dK kvs')/\WR K H' ((ws.take i).map fun e=>(e.1,c0v (often * (e.1.testBit k).toNat) e.2)) kvs'/\But a H H') ?_ ?_ ?_ ?_
 ·intro o;refine ⟨none,none,[],rfl,a0c,by rw [a0q hpa]; exact a0c,.nil,fun c o' hc e=>?_⟩;rw [a0q hc];exact a0b hp _ _ _ e
 ·rintro o i σ H' ⟨u0,u1,kvs',_,h1,_⟩;exact h1
 ·rintro o i kk v σ H' x hget ⟨u0,u1,kvs',rfl,h1,h2,h3,h5⟩ hx;obtain ⟨b,pp,a',e1,rfl,rfl,sq⟩:=hWR.get hget;have hil:i < ws.length:=(List.getElem?_eq_some_iff.mp e1).1;have sq':SqT K (upd H' x (.tup [kV (.inl ((b:Nat):Int)),.ref a'])) a' [.int pp.1,.int pp.2]:=(a0b hx _).tup (h5.tup ha _ _ sq);have hp2:=a0b hx (.tup [kV (.inl ((b:Nat):Int)),.ref a']) _ _ h2;have ha2:=a0b hx (.tup [kV (.inl ((b:Nat):Int)),.ref a']) _ _ h1;have hB2:But a H (upd H' x (.tup [kV (.inl ((b:Nat):Int)),.ref a'])):=fun c o' hc e=>a0b hx _ _ _ (h5 _ _ hc e);have h3':=h3.stay (K:=K) (H':=upd H' x (.tup [kV (.inl ((b:Nat):Int)),.ref a'])) (fun y ys s=>(a0b hx _).tup s);have ht0:SqT K (upd H' x (.tup [kV (.inl ((b:Nat):Int)),.ref a'])) x [.int ((b:Nat):Int),.ref a']:=SqT.of a0c;generalize upd H' x (.tup [kV (.inl ((b:Nat):Int)),.ref a']) = G at sq' hp2 ha2 hB2 h3' ht0 ⊢;fail "go";refine ⟨b,k,rfl,?_⟩;refine st_i (.inl ⟨by omega,by omega⟩) ?_;have eb:(often:Int) * bI (b.testBit k) = ((often * (b.testBit k).toNat:Nat):Int):=by cases b.testBit k <;> simp [bI]
  fail "go";rw [eb];refine ⟨a',often * (b.testBit k).toNat,pp,rfl,sq',fun t G2 hS2 ht2=>?_⟩;have hpG:=hS2 _ _ hp2;have h3G:=h3'.stay (K:=K) (H':=G2) fun y ys s=>hS2.tup s;have hB:But p G2 (upd G2 p (.dK (d1s kvs' (.inl ((b:Nat):Int)) (.ref t)))):=But.upd;have hlen:=h3'.len;rw [List.length_map,List.length_take] at hlen;fail "go";refine ⟨p,_,rfl,d5s hpG (by omega),_,_,_,rfl,hB _ _ (Ne.symm hpa) (hS2 _ _ ha2),a0c,?_,fun c o' hc e=>hB _ _ (a0n e hp) (hS2 _ _ (hB2 _ _ hc e))⟩;rw [d6r (f:=fun e=>(e.1,c0v (often * (e.1.testBit k).toNat) e.2)) nd e1];exact (h3G.stay (fun y ys s=>hB.tup hpG y ys s)).put (hB.tup hpG _ _ ht2)
 ·rintro o σ H' ⟨u0,u1,kvs',rfl,h1,h2,h3,h5⟩;rw [hWR.len,List.take_length] at h3
  have SS:a2c H (upd H' a (.dK kvs)):=fun c o' e=>by
   by_cases hc:c=a
   ·subst hc;rw [ha] at e;rw [a0c];exact e
   ·rw [a0q hc];exact h5 _ _ hc e
  have hW:a9d K (upd H' a (.dK kvs)) p (ws.map fun e=>(e.1,c0v (often * (e.1.testBit k).toNat) e.2)):=⟨kvs',by rw [a0q hpa]; exact h2,h3.stay (c4m h1)⟩;fail "go";refine ⟨p,_,rfl,hW,by rw [List.map_map]; exact nd,by rw [List.length_map]; exact hl,fun p2 H2 s2 np2 hW2=>?_⟩;fail "go";exact q p2 H2 (SS.trans s2) (b5g SS np2) hW2
include T_D b3w a6z bm in theorem c6x (F:FunC K "on_whole" "Over.on_whole" a3t f fd a1t):a2s P w K mg base CX0 5 f fd ["self","whole"] (c7a K a8f a0h a0g a0j a0m):=by
 refine F.ok b6h (by fail "l4") (fun A outer s H vs Q E hr h=>?_);obtain ⟨x,a,⟨k,w'⟩,ws,rfl,hk,⟨dx,t,ha,ht,hlw⟩,hnd,hw,hA,nd,hl,hT,q⟩:=h;dsimp only at hk ha ht hlw hw hnd;subst hk;obtain ⟨i,rfl⟩:=b1c hlw;have hi:i <= 1000:=hw i (by simp);have ht':SqT K H t [.int (i:Nat)]:=SqT.of ht
 refine ⟨_,(a0e (a0u (i:=2) b6h.nd rfl (Or.inr rfl) (a0w (a8k) a0p (a0z (a0s) (a2y (pv 0) rfl) a0p (fun _ _=>rfl))))
   (a0k (a0v (pe_fnL b3w hr a6z bm (pv 1))))),?_⟩
 fail "st";fail "go";refine a2b ha (T_D.cl _) (T_D.n_at _) (a5y _ _) ?_;fail "go";refine d8m ?_;fail "go";refine st_lam hT.1 fun f1 H1 sx t1 nf hL=>?_;fail "go";intro G cov;have hne:=nd4 hT.2.2.2.2;obtain ⟨ps1,hps1,_⟩:=id hT.1;have sT:=sx.t hps1
 have fin:∀ p H2,a2c G H2->G p=none->a9d K H2 p (wnz (b2b ⟨.over,[i]⟩ ws))->Q (.ref p) (unc [("bit",s.heap.objs.size + 1)] H2):=fun p H2 s2 np hW=>by
  have S1:a2c H1 (unc [("bit",s.heap.objs.size + 1)] H2):=cov.un s2;refine q p _ (fun b o e n=>S1 _ _ (sT b o e n)) ⟨t1.same S1,(hT.2.1.other sx (Ne.symm hne.1) hps1).same S1,(hT.2.2.1.other sx (Ne.symm hne.2.1) hps1).same S1,(hT.2.2.2.1.other sx (Ne.symm hne.2.2.2.1) hps1).same S1,hT.2.2.2.2⟩ ?_ (hW.unc fun pp hp=>?_)
  ·cases e:H p with
   | none=>rfl
   | some o=>
    by_cases z:p=a0h
    ·obtain ⟨ps2,e2,_⟩:=t1;rw [z,cov.same _ _ e2] at np; cases np
    ·rw [cov.same _ _ (sx _ _ z e)] at np; cases np
  ·obtain ⟨_,o,e,_⟩:=cov.at_ pp.1 pp.2 hp;exact ⟨o,s2 _ _ e⟩
 obtain ⟨_,o,hGc,hv⟩:=cov.at_ _ _ (.head _);obtain ⟨u,hd,tk,rfl⟩:=hv 2 (.int ((2 ^ i:Nat):Int)) rfl rfl;have nd2:=c3k (inv_inj (g:=fun b=>b ^^^ 2 ^ i) fun b=>xor_two b (2 ^ i)) nd;refine ⟨a,f1,ws,fun b=>b ^^^ 2 ^ i,rfl,(hA.to sT).stay cov.same,nd2,by omega,.over (hL.same cov.same) ⟨o,tk,hGc,hd⟩ hi,fun p H2 s2 np hW=>⟨cov.keeps s2,fin p H2 s2 np ?_⟩⟩;rw [b7h (f:=fun e=>(e.1 ^^^ 2 ^ i,e.2)) (fun e=>rfl) nd2];exact hW
include T_D a2m in theorem c1p (F:Fun K "on_whole" "Quarter.on_whole" a8d f fd):a2s P w K mg base CX0 3 f fd ["self","whole"] (c1m K a8f a0h a0g a0j a0m):=by
 refine F.ok c0t (by fail "l4") (fun cdv A outer s H vs Q E hr h=>?_);obtain ⟨x,a,⟨k,w'⟩,ws,rfl,hk,⟨dx,t,ha,ht,hlw⟩,hnd,hw,hA,nd,hl,hT,q⟩:=h;dsimp only at hk ha ht hlw hw hnd;subst hk;obtain ⟨i,rfl⟩:=b1c hlw;have hi:i <= 1000:=hw i (by simp);have ht':SqT K H t [.int (i:Nat)]:=SqT.of ht;refine ⟨_,(a0k (a0v (a1b a2m hr a0x (a0a (pv 1) (a0a (a0z (a0s) (a2y (pv 0) rfl) a0p (fun _ _=>rfl)) (a0a a0p a0d)))))),?_⟩;fail "st";fail "go";refine a2b ha (T_D.cl _) (T_D.n_at _) (a5y _ _) ?_;fail "go";refine ⟨a,i,1,ws,rfl,hA,nd,by omega,hi,by decide,fun p H' s1 np hW=>?_⟩;fail "go";refine q p H' (fun b o e _=>s1 _ _ e) (hT.to s1) np ?_;rw [b7h (f:=fun e=>(e.1,c0v (1 * (e.1.testBit i).toNat) e.2)) (fun e=>by show [(e.1,c0v (e.1.testBit i).toNat e.2)] = _; rw [Nat.one_mul]) nd];exact hW
include T_D a2m in theorem c7e (F:Fun K "on_whole" "Back.on_whole" b2f f fd):a2s P w K mg base CX0 3 f fd ["self","whole"] (c7w K a8f a0h a0g a0j a0m):=by
 refine F.ok c6v (by fail "l4") (fun cdv A outer s H vs Q E hr h=>?_);obtain ⟨x,a,⟨k,w'⟩,ws,rfl,hk,⟨dx,t,ha,ht,hlw⟩,hnd,hw,hA,nd,hl,hT,q⟩:=h;dsimp only at hk ha ht hlw hw hnd;subst hk;obtain ⟨i,rfl⟩:=b1c hlw;have hi:i <= 1000:=hw i (by simp);have ht':SqT K H t [.int (i:Nat)]:=SqT.of ht;refine ⟨_,(a0k (a0v (a1b a2m hr a0x (a0a (pv 1) (a0a (a0z (a0s) (a2y (pv 0) rfl) a0p (fun _ _=>rfl)) (a0a a0p a0d)))))),?_⟩;fail "st";fail "go";refine a2b ha (T_D.cl _) (T_D.n_at _) (a5y _ _) ?_;fail "go";refine ⟨a,i,3,ws,rfl,hA,nd,by omega,hi,by decide,fun p H' s1 np hW=>?_⟩;fail "go";refine q p H' (fun b o e _=>s1 _ _ e) (hT.to s1) np ?_;rw [b7h (f:=fun e=>(e.1,c0v (3 * (e.1.testBit i).toNat) e.2)) (fun e=>rfl) nd];exact hW
include a1h T_D a6v b3d in theorem c7c (F:Fun K "on_whole" "Both.on_whole" b1m f fd):a2s P w K mg base CX0 2 f fd ["self","whole"] (c7h K a8f a0h a0g a0j a0m):=by
 refine F.ok a4e (by fail "l4") (fun cdv A outer s H vs Q E hr h=>?_);obtain ⟨xs_,a,⟨k,w'⟩,ws,rfl,hk,⟨dx,t,hx0,ht,hlw⟩,hnd,hw,⟨kvs,hA0,hWR⟩,nd,hl,hT,q⟩:=h;dsimp only at hk hx0 ht hlw hw hnd;subst hk;obtain ⟨i0,rfl⟩:=b1c hlw;have hi:i0 <= 1000:=hw i0 (by simp);have ht':SqT K H t [.int (i0:Nat)]:=SqT.of ht;have ha:=hA0
 refine ⟨_,(a0e (a0u (i:=2) a4e.nd rfl (Or.inl rfl) (a0w (a8k) a0p (a0z (a0s) (a2y (pv 0) rfl) a0p (fun _ _=>rfl))))
   (a0e (a0u (i:=3) a4e.nd rfl (Or.inl rfl) c0p)
   (a0e (c4v (b4k PassesOwn.never rfl (b9k (pv 1)) (c0h rfl (a2x (a2r (i:=4) a4e.nd rfl (Or.inl rfl)) (a2x (a2r (i:=5) a4e.nd rfl (Or.inl rfl)) b4d))) (a0e (a0u (i:=6) a4e.nd rfl (Or.inl rfl) (a0w (op_or) (pv 4) (pv 2)))
   (a0e (a3f (a1b b3d hr a0x (a0a (pv 3) (a0a (a0w (a4x) (pv 6) (pv 2)) (a0a (pv 5) a0d)))))
   (a0k (a3f (a1b b3d hr a0x (a0a (pv 3) (a0a (pv 6) (a0a (c3g (a1e (a8n) (pv 4) (pv 6) (a1r _)) (a1b a6v hr a0x (a0a (pv 5) (a0a a0p a0d))) (pv 5)) a0d))))))))))
   (a0k (a0v (a1b a1h hr a0x (a0a (pv 3) a0d))))))),?_⟩
 fail "st";fail "go";refine a2b hx0 (T_D.cl _) (T_D.n_at _) (a5y _ _) ?_;fail "go";rename_i p hp;have hpa:p ≠ a:=Ne.symm (a0n ha hp);refine a7q (fun P h=>⟨_,rfl,h⟩) (a0b hp _ _ _ ha) (fun o i σ H'=>∃ (u0 u1 u2:Option V) (kvs':List (Key × V)),σ=[some (.ref xs_),some (.ref a),some (.int ((2 ^ i0:Nat):Int)),some (.ref p),u0,u1,u2]/\H' a=some (.frz o (.dK kvs))/\H' p=some (.dK kvs')/\WR K H' (b2b ⟨.both,[i0]⟩ (ws.take i)) kvs'/\But a H H') ?_ ?_ ?_ ?_
 ·intro o;refine ⟨none,none,none,[],rfl,a0c,by rw [a0q hpa]; exact a0c,.nil,fun c o' hc e=>?_⟩;rw [a0q hc];exact a0b hp _ _ _ e
 ·rintro o i σ H' ⟨u0,u1,u2,kvs',_,h1,_⟩;exact h1
 ·rintro o i k v σ H' x hget ⟨u0,u1,u2,kvs',rfl,h1,h2,h3,h5⟩ hx;obtain ⟨b,pp,a',e1,rfl,rfl,sq⟩:=hWR.get hget;have hil:i < ws.length:=(List.getElem?_eq_some_iff.mp e1).1;have sq':SqT K (upd H' x (.tup [kV (.inl ((b:Nat):Int)),.ref a'])) a' [.int pp.1,.int pp.2]:=(a0b hx _).tup (h5.tup ha _ _ sq);have hp2:=a0b hx (.tup [kV (.inl ((b:Nat):Int)),.ref a']) _ _ h2;have ha2:=a0b hx (.tup [kV (.inl ((b:Nat):Int)),.ref a']) _ _ h1;have hB2:But a H (upd H' x (.tup [kV (.inl ((b:Nat):Int)),.ref a'])):=fun c o' hc e=>a0b hx _ _ _ (h5 _ _ hc e);have h3':=h3.stay (K:=K) (H':=upd H' x (.tup [kV (.inl ((b:Nat):Int)),.ref a'])) (fun y ys s=>(a0b hx _).tup s);have ht0:SqT K (upd H' x (.tup [kV (.inl ((b:Nat):Int)),.ref a'])) x [.int ((b:Nat):Int),.ref a']:=SqT.of a0c;generalize upd H' x (.tup [kV (.inl ((b:Nat):Int)),.ref a']) = G at sq' hp2 ha2 hB2 h3' ht0 ⊢;have hln:=deedF_len ⟨.both,[i0]⟩ (ws.take i);rw [List.length_take] at hln;have hst:=deedF_step (d:=⟨.both,[i0]⟩) e1;fail "go";refine ⟨p,a',clr b i0,by rw [<- down_clr]; rfl,pp,_,kvs',sq',hp2,h3',by omega,fun H3 kvs3 g1 g2 g3=>?_⟩;have sq3:=g3.tup hp2 _ _ sq';have hl3:=wput_len (b2b ⟨.both,[i0]⟩ (ws.take i)) (clr b i0) (((wat (b2b ⟨.both,[i0]⟩ (ws.take i)) (clr b i0)).getD (0,0)).1 + pp.1,((wat (b2b ⟨.both,[i0]⟩ (ws.take i)) (clr b i0)).getD (0,0)).2 + pp.2);fail "go"
  have fin:∀ (v:Addr) (pv:Int × Int) (G2:Hp),a2c H3 G2->SqT K G2 v [.int pv.1,.int pv.2]->pv=c0v (2 * (b.testBit i0).toNat) pp->c9r K [.ref p,.int ((b ||| 2 ^ i0:Nat):Int),.ref v] G2 (fun _ H1=>∃ (u0' u1' u2':Option V) (kvs':List (Key × V)),[some (V.ref xs_),some (.ref a),some (.int ((2 ^ i0:Nat):Int)),some (.ref p),some (.int (b:Int)),some (.ref a'),some (.int ((b ||| 2 ^ i0:Nat):Int))] = [some (.ref xs_),some (.ref a),some (.int ((2 ^ i0:Nat):Int)),some (.ref p),u0',u1',u2']/\H1 a=some (.frz o (.dK kvs))/\H1 p=some (.dK kvs')/\WR K H1 (b2b ⟨.both,[i0]⟩ (ws.take (i + 1))) kvs'/\But a H H1) E0:=fun v pv G2 hS2 ht2 hpv=>by
   refine ⟨p,v,clr b i0 + 2 ^ i0,by rw [clr_down],pv,_,kvs3,ht2,hS2 _ _ g1,g2.stay (fun y ys s=>hS2.tup s),Nat.le_trans hl3 (by omega),fun H4 kvs4 g4 g5 g6=>?_⟩;refine ⟨_,_,_,kvs4,rfl,g6 _ _ (Ne.symm hpa) (hS2 _ _ (g3 _ _ (Ne.symm hpa) ha2)),g4,?_,fun c o' hc' e=>g6 _ _ (a0n e hp) (hS2 _ _ (g3 _ _ (a0n e hp) (hB2 _ _ hc' e)))⟩;rw [hst];show WR K H4 (wadd (wadd (b2b ⟨.both,[i0]⟩ (ws.take i)) (clr b i0) pp) (clr b i0 + 2 ^ i0) (c0v (2 * (b.testBit i0).toNat) pp)) kvs4;rw [<- hpv];exact g5
  refine b6p (fun c=>?_) (fun c=>?_)
  ·have hc:=(down_eq b i0).1 (Int.ofNat_inj.mp c);fail "go";refine ⟨a',2,pp,rfl,sq3,fun t2 G2 hS2 ht2=>?_⟩;fail "go";exact fin t2 (c0v 2 pp) G2 hS2 ht2 (by rw [hc]; rfl)
  ·have hc:b.testBit i0=false:=eq_false_of_ne_true fun z=>c (by rw [<- (down_eq b i0).2 z]);fail "go";exact fin a' pp H3 (a2c.refl _) sq3 (by rw [hc]; rfl)
 ·rintro o σ H' ⟨u0,u1,u2,kvs',rfl,h1,h2,h3,h5⟩;rw [hWR.len,List.take_length] at h3
  have SS:a2c H (upd H' a (.dK kvs)):=fun c o' e=>by
   by_cases hc:c=a
   ·subst hc;rw [ha] at e;rw [a0c];exact e
   ·rw [a0q hc];exact h5 _ _ hc e
  have hW:a9d K (upd H' a (.dK kvs)) p (b2b ⟨.both,[i0]⟩ ws):=⟨kvs',by rw [a0q hpa]; exact h2,h3.stay (c4m h1)⟩;fail "go";refine ⟨p,_,rfl,hW,deedF_nd _ _,Nat.le_trans (deedF_len _ _) (by omega),fun p2 H2 s2 np2 hW2=>?_⟩;fail "go";have s3:=SS.trans s2;exact q p2 H2 (fun b o e _=>s3 _ _ e) (hT.to s3) (b5g SS np2) hW2
include T_D b3w bm a6k in theorem c4c (F:FunC K "on_whole" "Where.on_whole" a3g f fd a1j):a2s P w K mg base CX0 5 f fd ["self","whole"] (c5g K a8f a0h a0g a0j a0m):=by
 refine F.ok a8y (by fail "l4") (fun A outer s H vs Q E hr h=>?_);obtain ⟨x,a,⟨k,w'⟩,ws,rfl,hk,⟨dx,t,ha,ht,hlw⟩,hnd,hw,hA,nd,hl,hT,q⟩:=h;dsimp only at hk ha ht hlw hw hnd;subst hk;obtain ⟨i,j,rfl⟩:=b8f hlw;have hi:i <= 1000:=hw i (by simp);have hj:j <= 1000:=hw j (by simp);have hij:i ≠ j:=fun z=>by subst z; simp at hnd
 have ht':SqT K H t [.int (i:Nat),.int (j:Nat)]:=SqT.of ht
 refine ⟨_,(a0e (a0u (i:=2) a8y.nd rfl (Or.inr rfl) (a0z (a0s) (a2y (pv 0) rfl) a0p (fun _ _=>rfl)))
   (a0e (a0u (i:=3) a8y.nd rfl (Or.inr rfl) (a0z (a0s) (a2y (pv 0) rfl) a0p (fun _ _=>rfl)))
   (a0k (a0v (pe_fnL b3w hr a6k bm (pv 1)))))),?_⟩
 fail "st";fail "go";refine a2b ha (T_D.cl _) (T_D.n_at _) (a5y _ _) ?_;fail "go";refine a2b ha (T_D.cl _) (T_D.n_at _) (a5y _ _) ?_;fail "go";refine d8m ?_;fail "go";refine st_lam hT.2.1 fun f1 H1 sx t1 nf hL=>?_;fail "go";intro G cov;have hne:=nd4 hT.2.2.2.2;obtain ⟨ps1,hps1,_⟩:=id hT.2.1;have sT:=sx.t hps1
 have fin:∀ p H2,a2c G H2->G p=none->a9d K H2 p (wnz (b2b ⟨.wher,[i,j]⟩ ws))->Q (.ref p) (unc [("k",s.heap.objs.size + 1 + 1),("j",s.heap.objs.size + 1)] H2):=fun p H2 s2 np hW=>by
  have S1:a2c H1 (unc [("k",s.heap.objs.size + 1 + 1),("j",s.heap.objs.size + 1)] H2):=cov.un s2;refine q p _ (fun b o e n=>S1 _ _ (sT b o e n)) ⟨(hT.1.other sx hne.1 hps1).same S1,t1.same S1,(hT.2.2.1.other sx (Ne.symm hne.2.2.1) hps1).same S1,(hT.2.2.2.1.other sx (Ne.symm hne.2.2.2.2.1) hps1).same S1,hT.2.2.2.2⟩ ?_ (hW.unc fun pp hp=>?_)
  ·cases e:H p with
   | none=>rfl
   | some o=>
    by_cases z:p=a0g
    ·obtain ⟨ps2,e2,_⟩:=t1;rw [z,cov.same _ _ e2] at np; cases np
    ·rw [cov.same _ _ (sx _ _ z e)] at np; cases np
  ·obtain ⟨_,o,e,_⟩:=cov.at_ pp.1 pp.2 hp;exact ⟨o,s2 _ _ e⟩
 obtain ⟨_,o2,hGd,hv2⟩:=cov.at_ _ _ (.head _);obtain ⟨_,o,hGc,hv⟩:=cov.at_ _ _ (.tail _ (.head _));obtain ⟨u,hd,tk,rfl⟩:=hv 2 (.int (i:Int)) rfl rfl;obtain ⟨u2,hd2,tk2,rfl⟩:=hv2 3 (.int (j:Int)) rfl rfl;have nd2:=c3k (inv_inj (g:=fun b=>b ^^^ (b.testBit i).toNat * 2 ^ j) (wher_two hij)) nd;refine ⟨a,f1,ws,fun b=>b ^^^ (b.testBit i).toNat * 2 ^ j,rfl,(hA.to sT).stay cov.same,nd2,by omega,.wher (hL.same cov.same) (by exact Nat.ne_of_lt (Nat.lt_succ_self _)) ⟨o,tk,hGc,hd⟩ ⟨o2,tk2,hGd,hd2⟩ hi hj,fun p H2 s2 np hW=>⟨cov.keeps s2,fin p H2 s2 np ?_⟩⟩;rw [b7h (f:=fun e=>(e.1 ^^^ (e.1.testBit i).toNat * 2 ^ j,e.2)) (fun e=>rfl) nd2];exact hW
include T_D b3w bm a7b in theorem c7g (F:FunC K "on_whole" "Swap.on_whole" a3v f fd a1s):a2s P w K mg base CX0 5 f fd ["self","whole"] (c7u K a8f a0h a0g a0j a0m):=by
 refine F.ok b0a (by fail "l4") (fun A outer s H vs Q E hr h=>?_);obtain ⟨x,a,⟨k,w'⟩,ws,rfl,hk,⟨dx,t,ha,ht,hlw⟩,hnd,hw,hA,nd,hl,hT,q⟩:=h;dsimp only at hk ha ht hlw hw hnd;subst hk;obtain ⟨i,j,rfl⟩:=b8f hlw;have hi:i <= 1000:=hw i (by simp);have hj:j <= 1000:=hw j (by simp);have hij:i ≠ j:=fun z=>by subst z; simp at hnd
 have ht':SqT K H t [.int (i:Nat),.int (j:Nat)]:=SqT.of ht
 refine ⟨_,(a0e (a0u (i:=2) b0a.nd rfl (Or.inr rfl) (a0z (a0s) (a2y (pv 0) rfl) a0p (fun _ _=>rfl)))
   (a0e (a0u (i:=3) b0a.nd rfl (Or.inr rfl) (a0z (a0s) (a2y (pv 0) rfl) a0p (fun _ _=>rfl)))
   (a0k (a0v (pe_fnL b3w hr a7b bm (pv 1)))))),?_⟩
 fail "st";fail "go";refine a2b ha (T_D.cl _) (T_D.n_at _) (a5y _ _) ?_;fail "go";refine a2b ha (T_D.cl _) (T_D.n_at _) (a5y _ _) ?_;fail "go";refine d8m ?_;fail "go";refine st_lam hT.2.2.1 fun f1 H1 sx t1 nf hL=>?_;fail "go";intro G cov;have hne:=nd4 hT.2.2.2.2;obtain ⟨ps1,hps1,_⟩:=id hT.2.2.1;have sT:=sx.t hps1
 have fin:∀ p H2,a2c G H2->G p=none->a9d K H2 p (wnz (b2b ⟨.swap,[i,j]⟩ ws))->Q (.ref p) (unc [("k",s.heap.objs.size + 1 + 1),("j",s.heap.objs.size + 1)] H2):=fun p H2 s2 np hW=>by
  have S1:a2c H1 (unc [("k",s.heap.objs.size + 1 + 1),("j",s.heap.objs.size + 1)] H2):=cov.un s2;refine q p _ (fun b o e n=>S1 _ _ (sT b o e n)) ⟨(hT.1.other sx hne.2.1 hps1).same S1,(hT.2.1.other sx hne.2.2.1 hps1).same S1,t1.same S1,(hT.2.2.2.1.other sx (Ne.symm hne.2.2.2.2.2) hps1).same S1,hT.2.2.2.2⟩ ?_ (hW.unc fun pp hp=>?_)
  ·cases e:H p with
   | none=>rfl
   | some o=>
    by_cases z:p=a0j
    ·obtain ⟨ps2,e2,_⟩:=t1;rw [z,cov.same _ _ e2] at np; cases np
    ·rw [cov.same _ _ (sx _ _ z e)] at np; cases np
  ·obtain ⟨_,o,e,_⟩:=cov.at_ pp.1 pp.2 hp;exact ⟨o,s2 _ _ e⟩
 obtain ⟨_,o2,hGd,hv2⟩:=cov.at_ _ _ (.head _);obtain ⟨_,o,hGc,hv⟩:=cov.at_ _ _ (.tail _ (.head _));obtain ⟨u,hd,tk,rfl⟩:=hv 2 (.int (i:Int)) rfl rfl;obtain ⟨u2,hd2,tk2,rfl⟩:=hv2 3 (.int (j:Int)) rfl rfl;have nd2:=c3k (inv_inj (g:=fun b=>ex b i j) (ex_two hij)) nd;refine ⟨a,f1,ws,fun b=>ex b i j,rfl,(hA.to sT).stay cov.same,nd2,by omega,.swap (hL.same cov.same) (by exact Nat.ne_of_lt (Nat.lt_succ_self _)) ⟨o,tk,hGc,hd⟩ ⟨o2,tk2,hGd,hd2⟩ hi hj,fun p H2 s2 np hW=>⟨cov.keeps s2,fin p H2 s2 np ?_⟩⟩;rw [b7h (f:=fun e=>(ex e.1 i j,e.2)) (fun e=>by show [(clr (clr e.1 i) j + (e.1.testBit j).toNat * 2 ^ i + (e.1.testBit i).toNat * 2 ^ j,e.2)] = _; rw [swap_xor hij]) nd2];exact hW
include T_M in theorem c6n (F:Fun K "wires" "Machine.wires" b2a f fd):a2s P w K mg base CX0 1 f fd ["self"] (b6g K a6g):=by
 refine F.ok c7y (by fail "l2") (fun cdv A outer s H vs Q E hr h=>?_);obtain ⟨x,n,rfl,⟨k,dx,fs,hx⟩,q⟩:=h;refine ⟨_,(a0k (a0v (a2y (pv 0) rfl))),?_⟩;fail "st";fail "go";exact a2b hx (T_M.cl k) (T_M.n_n k) rfl q
include T_M c9z in theorem d3g (F:Fun K "whole" "Exact.whole" b5c f fd):a2s P w K mg base CX0 1 f fd ["self"] (b9z K a6g):=by
 refine F.ok d4g (by fail "l4") (fun cdv A outer s H vs Q E hr h=>?_);obtain ⟨x,a,n,ws,rfl,⟨dx,hx⟩,hA,q⟩:=h;refine ⟨_,(a0k (a0v (a6x (d4r) rfl c9z boot_dict (a0a (a2y (pv 0) rfl) a0d)))),?_⟩;obtain ⟨kvs,hk,hwr⟩:=hA;fail "st";fail "go";refine a2b hx (T_M.cl .ex) (T_M.n_amounts .ex) rfl ?_;fail "go";refine st_dict hk fun p hp=>?_;exact q p _ (a0b hp _) hp ⟨kvs,a0c,hwr.stay fun y ys s=>(a0b hp _).tup s⟩
include T_M a6u in theorem d6c (F:Fun K "rows" "Signs.rows" b7f f fd):a2s P w K mg base CX0 1 f fd ["self"] (c3d K a6g):=by
 refine F.ok d7t (by fail "l3") (fun cdv A outer s H vs Q E hr h=>?_);obtain ⟨x,n,rs,rfl,⟨dx,a,xs,hx,ha,hR⟩,hl,q⟩:=h;refine ⟨_,(a0k (a0v (a6x (b1e) rfl a6u a9r (a0a (a2y (pv 0) rfl) a0d)))),?_⟩;fail "st";fail "go";refine a2b hx (T_M.cl .sg) (T_M.n_kept .sg) rfl ?_;fail "go";refine ⟨a,xs,rfl,.inl (SqL.of ha),fun p hp=>?_⟩;fail "go";exact q p xs _ (a0b hp _) hp a0c (hR.stay fun y ys s=>a0b hp _ _ _ s)
include T_M b3e in theorem d1d (F:Fun K "follow" "Exact.follow" b3t f fd):a2s P w K mg base CX0 6 f fd ["self","deed"] (b6u K a8f a6g a0h a0g a0j a0m):=by
 refine F.ok c9g (by fail "l6") (fun cdv A outer s H vs Q E hr h=>?_);obtain ⟨x,y,a,n,d,ws,rfl,⟨dx,hx⟩,hD,hnd,hw,hA,nd,hl,hT,q⟩:=h;refine ⟨_,(a0k (b4v (pv 0) (c6t b3e hr a0x (pv 1) (a0a (a2y (pv 0) rfl) a0d)) rfl)),?_⟩;obtain ⟨dx1,tt,hd1,hd2,hd4⟩:=id hD;fail "st";fail "go";refine a5z hd1 (flds_no _ _ (by decide +kernel) (by decide +kernel) (by decide +kernel)) ?_;fail "go";refine a2b hx (T_M.cl .ex) (T_M.n_amounts .ex) rfl ?_;fail "go";refine ⟨y,a,d,ws,rfl,rfl,hD,hnd,hw,hA,nd,hl,hT,fun p H1 hS hT1 hp hW=>?_⟩;have hx1:=hS _ _ hx (by intro ps z; cases z);fail "go";refine a9b hx1 (T_M.cl .ex) (T_M.n_amounts .ex) (by simp) ?_;have hB:But x H1 (upd H1 x (.ins (a6g .ex) dx [("n",.int (n:Int)),("amounts",.ref p)])):=But.upd;obtain ⟨kv,k1,k2⟩:=hW;refine q p _ (fun c o hc e nt=>hB _ _ hc (hS _ _ e nt)) (c3y hT1 hB hx1) hp ⟨dx,a0c⟩ ⟨kv,hB _ _ (fun z=>by rw [z,hx1] at k1; cases k1) k1,k2.stay fun y ys s=>d8g hB hx1 s⟩
include T_M b9q in theorem d1t (F:Fun K "follow" "Signs.follow" a9h f fd):a2s P w K mg base CX0 4 f fd ["self","deed"] (b7z K a8f a6g):=by
 refine F.ok b7r (by fail "l5") (fun cdv A outer s H vs Q E hr h=>?_);obtain ⟨x,y,n,d,rs,rfl,⟨dx,a,xs,hx,ha,hR⟩,hl,hD,hw,q⟩:=h;refine ⟨_,(a0k (b4v (pv 0) (a7d (sc:=a0f a9h) rfl ⟨rfl,by decide +kernel,rfl,by decide +kernel,by decide +kernel,by decide +kernel,by decide +kernel⟩ (by show ("row":Str) ∉ (["self","deed"]:List Str); decide +kernel) (by show (".0":Str) ∉ (["self","deed"]:List Str); decide +kernel) b7r.nd rfl (a4p (a2y (pv 0) rfl)) (fun _ _ _ _=>a7j) (fun _ _ _ _=>(c6t b9q hr a0x (pv 2) (a0a (pv 0) a0d)))) rfl)),?_⟩;obtain ⟨dx1,tt,hd1,hd2,hd4⟩:=id hD;fail "st";fail "go";refine st_cqE ?_;fail "go";refine a2b hx (T_M.cl .sg) (T_M.n_kept .sg) rfl ?_;have hlx:=hR.len;refine c9q (SqL.of ha) (fun i ys H'=>a2c H H'/\RL K H' ((rs.take i).map (act d)) ys) (by omega) ⟨a2c.refl _,.nil⟩ ?_ ?_ ?_ ?_
 ·rintro i ys H' ⟨_,h2⟩;have:=h2.len;rw [List.length_map,List.length_take] at this;omega
 ·rintro i ys H' ⟨h1,_⟩;exact SqL.of (h1 _ _ ha)
 ·rintro i x1 ys H' hget ⟨h1,h2⟩;obtain ⟨r,t,e1,rfl,sq⟩:=hR.get hget;refine st_yes ?_;fail "go";refine a5z (h1 _ _ hd1) (flds_no _ _ (by decide +kernel) (by decide +kernel) (by decide +kernel)) ?_;fail "go";refine ⟨y,t,d,r,rfl,rfl,hD.same h1,hw,h1.tup (SqT.of sq),fun p2 H2 hS2 hp2=>?_⟩;fail "go";refine ⟨h1.trans hS2,?_⟩;rw [take_snoc e1,List.map_append];exact (h2.stay fun y ys s=>hS2 _ _ s).snoc hp2
 ·rintro ys H' ⟨h1,h2⟩ p1 hp1;rw [hlx,List.take_length] at h2;have k1:=a0b hp1 (.lst ys) _ _ (h1 _ _ hx);fail "go";refine a9b k1 (T_M.cl .sg) (T_M.n_kept .sg) (by simp) ?_;have hB:But x (upd H' p1 (.lst ys)) (upd (upd H' p1 (.lst ys)) x (.ins (a6g .sg) dx [("n",.int (n:Int)),("kept",.ref p1)])):=But.upd;have hpp:p1 ≠ x:=fun z=>by rw [z,h1 _ _ hx] at hp1; cases hp1
  refine q _ (fun c o hc e=>hB _ _ hc (a0b hp1 _ _ _ (h1 _ _ e))) ⟨dx,p1,ys,a0c,hB _ _ hpp a0c,?_⟩;exact (h2.stay fun y ys s=>a0b hp1 _ _ _ s).stay fun y ys s=>hB _ _ (fun z=>by rw [z,k1] at s; cases s) s
include a6t in theorem d0d (F:Fun K "_law_cell_at" "_law_cell_at" b3r f fd):a2s P w K mg base CX0 1 f fd ["_law_script","_law_k"] (b8r K):=by
 refine F.ok d2g (by fail "l3") (fun cdv A outer s H vs Q E hr h=>?_);obtain ⟨a,k,ns,rfl,ha,q⟩:=h
 refine ⟨_,(a0e (a3s (a1e (op_lt) (pv 1) (a2g (a4k) rfl a6t PySem.boot_len (a0a (pv 0) a0d)) (a1r _)) (a0k (a0v (a0z (b8h) (pv 0) (pv 1) (fun _ _=>rfl)))) a1m)
   (a0k (a0v a0p))),?_⟩
 fail "st";fail "go";refine b6p (fun c=>?_) (fun c=>?_)
 ·rw [List.length_map] at c;obtain ⟨x,ex⟩:=at_i (cs:=ns) (i:=k) (by omega);fail "go";exact q x
 ·fail "go";exact q 0
theorem d8t (F:Fun K "_law_mixed" "_law_mixed" b7q f fd):a2s P w K mg base CX0 1 f fd ["_law_draw","_law_k"] (c3u K):=by
 refine F.ok c2x (by fail "l2") (fun cdv A outer s H vs Q E hr h=>?_);obtain ⟨c,k,rfl,hk,q⟩:=h
 refine ⟨_,(a0e (a0u (i:=2) c2x.nd rfl (Or.inl rfl) (a0w (a6r) (a0w (d7p) (a0w (a7p) (a0w (a7p) (a0w (a6r) (pv 0) a0p) (a0w (d7p) a0p (pv 1))) a0p) a0p) a0p))
   (a0k (a0v (a0w (a6r) (a0w (d7p) (pv 2) (a0w (a7p) (a0w (op_fdivW) (pv 2) a0p) a0p)) a0p)))),?_⟩
 fail "go";refine st_i ⟨by omega,by omega⟩ ?_;fail "go";refine st_i ⟨by omega,by omega⟩ ?_;fail "go";refine st_i ⟨by omega,by omega⟩ ?_;fail "go"
 have key:∀ x:Int,Q (.int (x % 2147483629)) H:=fun x=>by
  obtain ⟨m,e,hm⟩:=b9c x (n:=2147483629) (by decide);have e2:x % 2147483629=(m:Int):=e;rw [e2];exact q m hm
 first
 | exact key _
 | (rename_i m em hm; exact q m hm)
include a1d in theorem d9d (F:Fun K "_law_words" "_law_words" b7m f fd):a2s P w K mg base CX0 2 f fd ["_law_draw","_law_n"] (c2v K):=by
 refine F.ok b1b (by fail "l2") (fun cdv A outer s H vs Q E hr h=>?_);obtain ⟨c,n,rfl,h0,hn,q⟩:=h
 refine ⟨_,(a0e (a0u (i:=2) b1b.nd rfl (Or.inl rfl) (a0w (a6r) (a1b a1d hr a0x (a0a (pv 0) (a0a a0p a0d))) a0p))
   (a0e (a0u (i:=3) b1b.nd rfl (Or.inl rfl) (a0w (a6r) (a1b a1d hr a0x (a0a (pv 0) (a0a a0p a0d))) (pv 1)))
   (a0e (a3s (PW.pt (c1q (a1e (a8n) (pv 1) a0p (a1r _)) (b6n (a1e (op_lt) (pv 2) a0p (a1r _))))) (a0k (a0v (a1w (a0a (a0z (b8h) (a5x (a0a a1c (a0a a1c (a0a a1c (a0a a1c (a0a a1c a0d)))))) (a0w (a6r) (pv 2) a0p) (fun _ _=>rfl)) (a0a (pv 3) a0d))))) a1m)
   (a0e (a0u (i:=4) b1b.nd rfl (Or.inl rfl) (a0w (a6r) (a0w (a7p) (a0w (a7p) (pv 3) a0p) (a0w (a6r) (a1b a1d hr a0x (a0a (pv 0) (a0a a0p a0d))) (a0w (d4u) (pv 1) a0p))) (pv 1)))
   (a0k (a0v (a1w (a0a (a0z (b8h) (a5x (a0a a1c (a0a a1c (a0a a1c (a0a a1c a0d))))) (a0w (d4u) (pv 2) a0p) (fun _ _=>rfl)) (a0a (pv 4) (a0a (pv 3) a0d)))))))))),?_⟩
 fail "st";fail "go";refine ⟨c,1,rfl,by decide,fun m1 h1=>?_⟩;fail "go";refine ⟨c,2,rfl,by decide,fun m2 h2=>?_⟩;fail "go";rename_i t et ht;refine b6p (fun c1=>?_) (fun c1=>?_)
 ·fail "go";rename_i pl kpl;obtain ⟨m5,e5,h5⟩:=b9c ((m1:Int) % 9) (n:=5) (by decide);rw [show (m1:Int) % 9 % 5=(m5:Int) from e5];refine b6f (SqL.of a0c) (at_k5 h5) ?_;fail "go";rename_i p2 hp2;exact q p2 _ ⟨k5 m5,[t]⟩ (by fail "sm") a0c ⟨(k5_n m5).symm,fun x hx=>by rw [List.mem_singleton.mp hx]; exact ht,by simp⟩
 ·fail "go";refine b6p (fun c2=>?_) (fun c2=>?_)
  ·fail "go";rename_i pl kpl;obtain ⟨m5,e5,h5⟩:=b9c ((m1:Int) % 9) (n:=5) (by decide);rw [show (m1:Int) % 9 % 5=(m5:Int) from e5];refine b6f (SqL.of a0c) (at_k5 h5) ?_;fail "go";rename_i p2 hp2;exact q p2 _ ⟨k5 m5,[t]⟩ (by fail "sm") a0c ⟨(k5_n m5).symm,fun x hx=>by rw [List.mem_singleton.mp hx]; exact ht,by simp⟩
  ·fail "go";refine ⟨c,3,rfl,by decide,fun m3 h3=>?_⟩;fail "go";rename_i j ej hj pl kpl;obtain ⟨m4,e4⟩:∃ m4:Nat,(m1:Int) % 9 - 5=(m4:Int):=⟨((m1:Int) % 9 - 5).toNat,by omega⟩;rw [e4];refine b6f (SqL.of a0c) (at_k4 (by omega)) ?_;fail "go";rename_i p2 hp2;have hji:t ≠ j:=ne_modI ht (Int.emod_nonneg _ (by omega)) (Int.emod_lt_of_pos _ (by omega)) ej;refine q p2 _ ⟨k4 m4,[j,t]⟩ (by fail "sm") a0c ⟨(k4_n m4).symm,fun x hx=>?_,by simp [Ne.symm hji]⟩
   rcases List.mem_cons.mp hx with rfl | hx
   ·exact hj
   ·rw [List.mem_singleton.mp hx];exact ht
theorem ok_ones (F:Fun K "ones" "ones" s_ones f fd):a2s P w K mg base CX0 1 f fd ["number"] (sp_ones K):=by
 refine F.ok c9d (by fail "l1") (fun cdv A outer s H vs Q E hr h=>?_);obtain ⟨n,rfl,q⟩:=h
 refine ⟨_,(a0e (a0u (i:=1) c9d.nd rfl (Or.inl rfl) a0p)
   (a0e (a0u (i:=2) c9d.nd rfl (Or.inl rfl) (pv 0))
   (a0e (ps_while PassesOwn.never (a1e (op_gt) (pv 2) a0p (a1r _)) (a0e (a0u (i:=2) c9d.nd rfl (Or.inl rfl) (a0w (b0s) (pv 2) (a0w (d4u) (pv 2) a0p)))
   (a0k (a0u (i:=1) c9d.nd rfl (Or.inl rfl) (a0w (a7p) (pv 1) a0p)))))
   (a0k (a0v (pv 1)))))),?_⟩
 fail "go";refine ⟨fun m σ H'=>∃ k r:Nat,σ=[some (.int n),some (.int k),some (.int r)]/\H' = H/\m=r/\k + pop r=pop n,⟨n,0,n,rfl,rfl,rfl,by omega⟩,?_⟩;rintro m σ H' ⟨k,r,rfl,rfl,rfl,e⟩;fail "go";refine b6p (fun c=>?_) (fun c=>?_)
 ·have c':0 < m:=by omega
  refine ⟨fun σ' H1=>∃ k r:Nat,σ' = [some (.int n),some (.int k),some (.int r)]/\H1=H'/\r < m/\k + pop r=pop n,fun σ' H1 ⟨k,r,e1,e2,e3,e4⟩=>⟨r,e3,k,r,e1,e2,rfl,e4⟩,?_⟩;fail "go";rw [bitAnd_pred c'];have:=pop_pred m c';exact ⟨k + 1,m &&& (m - 1),rfl,rfl,and_pred_lt c',by omega⟩
 ·have c':m=0:=by omega
  subst c';rw [c2f,Nat.add_zero] at e;subst e;fail "go";exact q
theorem d7r (F:Fun K "lowest_bit" "lowest_bit" b8v f fd):a2s P w K mg base CX0 1 f fd ["number"] (c2m K):=by
 refine F.ok d8e (by fail "l1") (fun cdv A outer s H vs Q E hr h=>?_);obtain ⟨v,rfl,hv,q⟩:=h;refine ⟨_,(a0k (a0v (a0w (b0s) (pv 0) (pe_un d2z (pv 0))))),?_⟩;fail "go";obtain ⟨j,e,hj⟩:=low_bit v hv
 have e2:Builtin.bitAnd (v:Int) (-(v:Int)) = ((2 ^ j:Nat):Int):=by
  unfold Builtin.bitAnd;rw [decide_eq_true (show (0:Int) <= (v:Int) by omega),decide_eq_false (show ¬ (0:Int) <= -(v:Int) by omega)];show (v:Int) - _=_
  have e3:(Builtin.bitNot (-(v:Int))).toNat=v - 1:=by
   unfold Builtin.bitNot;omega
  rw [e3,Int.toNat_natCast,<- e];have:=Nat.and_le_left (n:=v) (m:=v - 1);omega
 rw [e2]; exact q j hj
theorem ok_fits (F:Fun K "fits" "fits" s_fits f fd):a2s P w K mg base CX0 1 f fd ["number","n"] (sp_fits K):=by
 refine F.ok sc_fits (by fail "l2") (fun cdv A outer s H vs Q E hr h=>?_);obtain ⟨x,n,rfl,hn,q⟩:=h;refine ⟨_,(a0k (a0v (d4q (b7s (op_ge) (pv 0) a0p (a1r _)) (pe_one (b7s (op_lt) (pv 0) (a0w (a8k) a0p (pv 1)) (a1r _)))))),?_⟩;fail "go";refine b6p (fun c=>?_) (fun c=>?_)
 ·fail "go"
  have e:decide (0 <= x/\x < ((2 ^ n:Nat):Int)) = decide (x < ((2 ^ n:Nat):Int)):=by
   by_cases h:x < ((2 ^ n:Nat):Int)
   ·rw [decide_eq_true h,decide_eq_true ⟨c,h⟩]
   ·rw [decide_eq_false h,decide_eq_false fun z=>h z.2]
  rw [e] at q;exact q
 ·rw [decide_eq_false fun z=>c z.1] at q;exact q
include a8j a8g a9q in theorem d3n (F:Fun K "goes_beside" "goes_beside" b5e f fd):a2s P w K mg base CX0 2 f fd ["one","other"] (c0a K):=by
 refine F.ok c0c (by fail "l4") (fun cdv A outer s H vs Q E hr h=>?_);obtain ⟨a,b,r,t,rfl,ha,hb,q⟩:=h
 refine ⟨_,(a0e (a0u (i:=2) c0c.nd rfl (Or.inl rfl) (a0w (a4x) (a0w (b0s) (a0z (a0s) (pv 0) (a2j a8j) (fun _ _=>rfl)) (a0z (a0s) (pv 1) (a2j a8g) (fun _ _=>rfl))) (a0w (b0s) (a0z (a0s) (pv 0) (a2j a8g) (fun _ _=>rfl)) (a0z (a0s) (pv 1) (a2j a8j) (fun _ _=>rfl)))))
   (a0k (a0v (b7s (a8n) (a0w (a6r) (a1b a9q hr a0x (a0a (pv 2) a0d)) a0p) a0p (a1r _))))),?_⟩
 fail "st";unfold Row.V at ha hb;fail "go";refine ⟨_,rfl,?_⟩;fail "go";have e:(((pop (crs r t):Nat):Int) % 2=0) = (pop (crs r t) % 2=0):=by apply propext; omega
 show Q (.bl (decide (((pop (crs r t):Nat):Int) % 2=0))) H;simp only [e];exact q
include a8j a8g a9q in theorem ok_letters_y (F:Fun K "letters_y" "letters_y" c1c f fd):a2s P w K mg base CX0 2 f fd ["row"] (c6e K):=by
 refine F.ok sc_letters_y (by fail "l2") (fun cdv A outer s H vs Q E hr h=>?_);obtain ⟨a,r,rfl,ha,q⟩:=h;refine ⟨_,(a0k (a0v (a1b a9q hr a0x (a0a (a0w (b0s) (a0z (a0s) (pv 0) (a2j a8j) (fun _ _=>rfl)) (a0z (a0s) (pv 0) (a2j a8g) (fun _ _=>rfl))) a0d)))),?_⟩;fail "st";unfold Row.V at ha;fail "go";exact ⟨_,rfl,q⟩
include a8j a8g a1y a9q a2q b5y a5w in theorem ok_times (F:Fun K "times" "times" s_times f fd):a2s P w K mg base (CXE P w) 3 f fd ["one","other"] (sp_times K a7e):=by
 refine F.okE c3t (by fail "l4") (fun cdv A outer s H vs Q E hr h=>?_);obtain ⟨a,b,r,t,rfl,ha,hb,q1,q2⟩:=h
 refine ⟨_,(a0e (a3s (b0t (a5u (a1b a2q hr a0x (a0a (pv 0) (a0a (pv 1) a0d))))) (a0k (a3x b5y a5r (a0a a1c a0d) rfl)) a1m)
   (a0e (a0u (i:=2) c3t.nd rfl (Or.inl rfl) (a0w (a4x) (a0z (a0s) (pv 0) (a2j a8j) (fun _ _=>rfl)) (a0z (a0s) (pv 1) (a2j a8j) (fun _ _=>rfl))))
   (a0e (a0u (i:=3) c3t.nd rfl (Or.inl rfl) (a0w (a4x) (a0z (a0s) (pv 0) (a2j a8g) (fun _ _=>rfl)) (a0z (a0s) (pv 1) (a2j a8g) (fun _ _=>rfl))))
   (a0e (a0u (i:=4) c3t.nd rfl (Or.inl rfl) (a0w (a7p) (a0w (a7p) (a0z (a0s) (pv 0) (a2j a1y) (fun _ _=>rfl)) (a0z (a0s) (pv 1) (a2j a1y) (fun _ _=>rfl))) (a1b a9q hr a0x (a0a (a0w (b0s) (a0z (a0s) (pv 0) (a2j a8j) (fun _ _=>rfl)) (a0z (a0s) (pv 1) (a2j a8g) (fun _ _=>rfl))) a0d))))
   (a0e (a0u (i:=5) c3t.nd rfl (Or.inl rfl) (a0w (d4u) (a0w (a7p) (a0w (a7p) (a0w (op_mul) a0p (pv 4)) (a1b a5w hr a0x (a0a (pv 0) a0d))) (a1b a5w hr a0x (a0a (pv 1) a0d))) (a1b a9q hr a0x (a0a (a0w (b0s) (pv 2) (pv 3)) a0d))))
   (a0k (a0v (a1w (a0a (a0w (op_fdivW) (a0w (a6r) (pv 5) a0p) a0p) (a0a (pv 2) (a0a (pv 3) a0d))))))))))),?_⟩
 fail "st";fail "go";refine ⟨a,b,r,t,rfl,ha,hb,?_⟩;fail "go";refine iteN (fun c=>?_) (fun c=>?_)
 ·fail "go";exact ⟨by decide,q2 c⟩
 have hs:a4s r t=false:=(b3f r t).2 c;unfold Row.V at ha hb;fail "go";refine ⟨_,rfl,?_⟩;fail "go";refine ⟨a,r,rfl,ha,?_⟩;fail "go";refine ⟨b,t,rfl,hb,?_⟩;fail "go";refine ⟨_,rfl,?_⟩;fail "go";rename_i p hp;have q3:=q1 hs p hp;unfold Row.V at q3;rw [<- tm_prog hs] at q3;exact q3
include b6s b5n a2q in theorem d7d (F:Fun K "all_beside" "all_beside" a7t f fd):a2s P w K mg base CX0 3 f fd ["rows"] (c2z K):=by
 refine F.ok c3a (by fail "l3") (fun cdv A outer s H vs Q E hr h=>?_);obtain ⟨l,as,rs,rfl,hl,hW,hz,q⟩:=h;refine ⟨_,(a0k (a0v (a2g (b4x rfl) rfl b6s b9j (a0a (pe_compN (sc:=a0f a7t) rfl ⟨rfl,by decide +kernel,fun _ _=>rfl,rfl,rfl,by decide +kernel,by decide +kernel,by decide +kernel,by decide +kernel⟩ (by show ("k":Str) ∉ (["rows"]:List Str); decide +kernel) (by show ("row":Str) ∉ (["rows"]:List Str); decide +kernel) (by decide +kernel) (by show (".0":Str) ∉ (["rows"]:List Str); decide +kernel) c3a.nd rfl (pi_enumL rfl b5n (a0a (pv 0) a0d)) (fun _ _ _ _=>a7j) (fun _ _ _ _=>(a2g (call_allBK (K:=K) rfl rfl) rfl b6s b9j (a0a (a7d (sc:=Tw.relS (Tw.bodyScope a7t) (a0f a7t)) rfl ⟨rfl,by decide +kernel,rfl,by decide +kernel,by decide +kernel,by decide +kernel,by decide +kernel⟩ (by show ("other":Str) ∉ (["k","row","rows"]:List Str); decide +kernel) (by show (".0":Str) ∉ (["k","row","rows"]:List Str); decide +kernel) (by show (["k","row","rows"]:List Str).Nodup; decide +kernel) rfl (pi_listK (K:=K) rfl (b5s (sl_listK (K:=K) rfl) (pv 2) c4p (b7k (pv 0)))) (fun _ _ _ _=>a7j) (fun _ _ _ _=>(a1b a2q hr a0x (a0a (pv 2) (a0a (pv 0) a0d))))) a0d)))) a0d)))),?_⟩;fail "st";fail "go";have lrs:as.length=rs.length:=hW.len;refine st_cpEn (fun P h=>?_) (SqL.of hl) (fun i ys H'=>a2c H H'/\ys=((List.range i).map (bsd rs)).map V.bl) (by rw [a1a]; omega) ⟨a2c.refl _,rfl⟩ ?_ ?_ ?_ ?_
 ·fail "go";exact h
 ·rintro i ys H' ⟨_,rfl⟩;rw [List.length_map,List.length_map,List.length_range];exact Nat.le_refl _
 ·rintro i ys H' ⟨s,_⟩;exact SqL.of (s _ _ hl)
 ·rintro i x ys H' p hx ⟨s,rfl⟩ hp;obtain ⟨a,ha,rfl⟩:=a3y hx;obtain ⟨r,hr,hra⟩:=hW.get ha;have S1:=s.trans (a0b hp (.tup [.int (i:Int),.ref a]));generalize upd H' p (.tup [.int (i:Int),.ref a]) = G1 at S1 ⊢;have l1:SqL K G1 l (refs as):=SqL.of (S1 _ _ hl);fail "go";refine st_cpE ?_;fail "go";rename_i p2 hp2;have et:d3s (refs as) none (some (i:Int)) = refs (as.take i):=(cut_takeV _ _).trans (List.map_take ..).symm;rw [et];have S2:=S1.trans (a0b hp2 (.lst (refs (as.take i))));have f2:(upd G1 p2 (.lst (refs (as.take i)))) p2=some (.lst (refs (as.take i))):=a0c;generalize upd G1 p2 (.lst (refs (as.take i))) = G2 at S2 f2 ⊢;have W2:a6h (Rt K G2) as rs:=hW.mono fun a d x=>Rt.same S2 x;have hra2:SqT K G2 a r.V:=SqT.of (Rt.same S2 hra);have eb:rs.getD i ⟨0,0,0⟩ = r:=by rw [List.getD_eq_getElem?_getD,hr]; rfl
  refine st_cpAt (SqL.of f2) (fun j zs H'=>H' = G2/\zs=(((rs.take i).take j).map fun s=>!a4s r s).map V.bl) (by rw [a1a,List.length_take]; omega) ⟨rfl,rfl⟩ ?_ ?_ ?_ ?_
  ·rintro j zs H' ⟨_,rfl⟩;rw [List.length_map,List.length_map,List.length_take];omega
  ·rintro j zs H' ⟨rfl,_⟩;exact SqL.of f2
  ·rintro j y zs H' hy ⟨rfl,rfl⟩;obtain ⟨b,hb,rfl⟩:=a3y hy;obtain ⟨t,ht,htb⟩:=(W2.take i).get hb;fail "go";refine ⟨a,b,r,t,rfl,hra2,SqT.of htb,?_⟩;rw [bes_dec];refine ⟨rfl,?_⟩;rw [a1g ht,List.map_append,List.map_append];rfl
  ·rintro zs H' ⟨rfl,rfl⟩ p3 hp3;fail "go";refine c6d (SqL.of a0c) ?_;refine ⟨S2.trans (a0b hp3 _),?_⟩;rw [a1a,List.length_take,Nat.min_eq_left (by have:=(List.getElem?_eq_some_iff.1 ha).1; omega),List.take_take,Nat.min_self,List.range_succ,List.map_append,List.map_append];show _=_ ++ [V.bl (bsd rs i)];unfold bsd;rw [eb]
 ·rintro ys H' ⟨s,rfl⟩ p hp;rw [a1a,lrs];fail "go";refine c6d (SqL.of a0c) ?_;exact q _ (s.trans (a0b hp _))
include a8j a8g in theorem d0a (F:Fun K "signs_number" "signs_number" b3m f fd):a2s P w K mg base CX0 1 f fd ["row","n"] (b7d K):=by
 refine F.ok d0h (by fail "l3") (fun cdv A outer s H vs Q E hr h=>?_);obtain ⟨a,n,r,rfl,ha,hx,hz,hn,q⟩:=h;refine ⟨_,(a0k (a0v (a0w (op_or) (a0z (a0s) (pv 0) (a2j a8j) (fun _ _=>rfl)) (a0w (a8k) (a0z (a0s) (pv 0) (a2j a8g) (fun _ _=>rfl)) (pv 1))))),?_⟩;fail "st";unfold Row.V at ha;rw [<- or_sn hx] at q;fail "go";refine st_i ⟨by omega,by omega,by rw [Int.natAbs_natCast]; exact Nat.lt_trans hz (by decide)⟩ ?_;rw [Int.toNat_natCast,show (r.z:Int) * 2 ^ n=((r.z * 2 ^ n:Nat):Int) from by push_cast; rfl];fail "go";exact q
include T_N in theorem c9k (F:Fun K "left_of" "Span.left_of" b3k f fd):a2s P w K mg base CX0 1 f fd ["self","number","which"] (b6z K c1w):=by
 refine F.ok a3w (by fail "l6") (fun cdv A outer s H vs Q E hr h=>?_);obtain ⟨p,l,x,w,us,ss,rfl,⟨dx,as,hp,hl,hss,ok,hz⟩,hu,q⟩:=h
 refine ⟨_,(a0e (a0u (i:=3) a3w.nd rfl (Or.inl rfl) (pv 1))
   (a0e (b4k PassesOwn.never rfl (a4p (a2y (pv 0) rfl)) (c0h rfl (a2x (a2r (i:=4) a3w.nd rfl (Or.inl rfl)) (a2x (a2r (i:=5) a3w.nd rfl (Or.inl rfl)) (a2x (a2r (i:=6) a3w.nd rfl (Or.inl rfl)) b4d)))) (a0k (a3s (a1e (d4b) (a0w (b0s) (pv 3) (pv 4)) a0p (a1r _)) (a0e (a0u (i:=3) a3w.nd rfl (Or.inl rfl) (a0w (a4x) (pv 3) (pv 5)))
   (a0k (a0u (i:=2) a3w.nd rfl (Or.inl rfl) (a0w (a4x) (pv 2) (pv 6))))) a1m)))
   (a0k (a0v (a1w (a0a (pv 3) (a0a (pv 2) a0d))))))),?_⟩
 fail "st";fail "go";refine st_forE ?_;fail "go";refine a2b hp (T_N.cl _) (T_N.n_sums _) (d0f _ _) ?_;refine st_forAt (SqL.of hl) (fun i σ H'=>∃ (u1 u2 u3:Option V),σ=[some (.ref p),some (.int x),some (.int ((red (ss.take i) x w).2:Int)),some (.int ((red (ss.take i) x w).1:Int)),u1,u2,u3]/\a2c H H') ⟨none,none,none,rfl,a2c.refl _⟩ ?_ ?_ ?_
 ·rintro i σ H' _ ⟨_,_,_,_,s⟩;exact SqL.of (s _ _ hl)
 ·rintro i y σ H' hy ⟨u1,u2,u3,rfl,s⟩;obtain ⟨a,ha,rfl⟩:=a3y hy;obtain ⟨sm,hsm,hsa⟩:=hss.get ha;have hsa':SqT K H' a [.int ((2 ^ sm.j:Nat):Int),.int (sm.t:Int),.int (sm.p:Int)]:=SqT.of (s _ _ hsa);rw [red_at x w hsm];generalize red (ss.take i) x w=lw;obtain ⟨lf,wh⟩:=lw;dsimp only;have hz:=and_pow_ne lf sm.j;fail "go"
  by_cases hb:lf.testBit sm.j=true
  ·simp only [if_pos hb];refine iteN (fun c=>?_) (fun c=>?_)
   ·fail "go";exact ⟨_,_,_,rfl,s⟩
   ·rw [hz.mp c] at hb;cases hb
  ·simp only [if_neg hb];refine iteN (fun c=>(c (hz.mpr (eq_false_of_ne_true hb))).elim) (fun c=>?_);fail "go";exact ⟨_,_,_,rfl,s⟩
 ·rintro σ H' ⟨u1,u2,u3,rfl,s⟩;fail "go";rename_i p2 hp2;rw [a1a,hss.len,List.take_length];exact q p2 _ (s.trans (a0b hp2 _)) a0c
include T_N a7f b3a in theorem ok_Span_take (F:Fun K "take" "Span.take" c1h f fd):a2s P w K mg base CX0 2 f fd ["self","number"] (c5v K c1w):=by
 refine F.ok c6g (by fail "l5") (fun cdv A outer s H vs Q E hr h=>?_);obtain ⟨p,l,x,us,ss,rfl,hS,hu,q⟩:=h
 refine ⟨_,(a0e (a0u (i:=2) c6g.nd rfl (Or.inl rfl) (c6t a7f hr a0x (pv 0) (a0a (pv 1) (a0a (a0w (a8k) a0p (a2y (pv 0) rfl)) a0d))))
   (a0e (b4v (pv 0) (a0w (a7p) (a2y (pv 0) rfl) a0p) rfl)
   (a0k (a3s (a1e (d4b) (a0z (a0s) (pv 2) a0p (fun _ _=>rfl)) a0p (a1r _)) (a0k (a3f (pe_bm PySem.F.plainAttrs_list PySem.F.slot_list_append PySem.F.type_list_append mt_append (a2y (pv 0) rfl) (a0a (a1w (a0a (a1b b3a hr a0x (a0a (a0z (a0s) (pv 2) a0p (fun _ _=>rfl)) a0d)) (a0a (a0z (a0s) (pv 2) a0p (fun _ _=>rfl)) (a0a (a0z (a0s) (pv 2) a0p (fun _ _=>rfl)) a0d)))) a0d)))) a1m)))),?_⟩
 fail "st";obtain ⟨dx,as,hp,hl,hss,ok,hz⟩:=id hS;fail "go";refine a5z hp (c9y _ _ (by decide +kernel) (by decide +kernel)) ?_;fail "go";refine a2b hp (T_N.cl _) (T_N.n_taken _) (d5q _ _) ?_;fail "go";refine ⟨p,l,x,2 ^ us.length,us,ss,rfl,hS,hu,fun q2 H' s hq2=>?_⟩;have hp':=s _ _ hp;have hl':=s _ _ hl;have hss':=hss.mono fun a d (x:Sm3 H a d)=>s _ _ x;have key:=fun j hj=>SpOk.take ok x j hj;generalize hr:red ss x (2 ^ us.length) = lw at hq2 key;obtain ⟨lf,wh⟩:=lw;dsimp only at hq2 key;fail "go";refine a2b hp' (T_N.cl _) (T_N.n_taken _) (d5q _ _) ?_;fail "go";refine a9b hp' (T_N.cl _) (T_N.n_taken _) (by show 2 < 1000; decide) ?_;rw [taken_put,show ((us.length:Nat):Int) + 1=(((us ++ [x]).length:Nat):Int) from by rw [List.length_append]; push_cast; rfl];have npl:l ≠ p:=c6y hl' hp' (by intro z; cases z);have B1:But p H' (upd H' p (.ins (c1w .span) dx (b4p l (((us ++ [x]).length:Nat):Int)))):=But.upd;have f_p:(upd H' p (.ins (c1w .span) dx (b4p l (((us ++ [x]).length:Nat):Int)))) p=some (.ins (c1w .span) dx (b4p l (((us ++ [x]).length:Nat):Int))):=a0c;generalize upd H' p (.ins (c1w .span) dx (b4p l (((us ++ [x]).length:Nat):Int))) = G at B1 f_p ⊢;have f_l:=B1 _ _ npl hl';have f_q:G q2=some (.tup [.int (lf:Int),.int (wh:Int)]):=B1 _ _ (c6y hq2 hp' (by intro z; cases z)) hq2;have f_s:=hss'.mono fun a d (x:Sm3 H' a d)=>(B1 _ _ (c6y x hp' (by intro z; cases z)) x:Sm3 G a d);have sq:SqT K G q2 [.int (lf:Int),.int (wh:Int)]:=SqT.of f_q;have oth1:∀ c o,c ≠ p->H c=some o->G c=some o:=fun c o hc e=>B1 c o hc (s c o e);have lss:as.length=ss.length:=hss.len;fail "go";refine iteN (fun c=>?_) (fun c=>?_)
 ·have hlf:lf ≠ 0:=fun z=>c (by rw [z]; rfl);fail "go";refine a2b f_p (T_N.cl _) (T_N.n_sums _) (d0f _ _) ?_;have sl:SqL K G l (refs as):=SqL.of f_l;have hle:(refs as).length <= 900:=by rw [a1a]; omega
  fail "go";refine ⟨lf,rfl,by omega,fun j hj=>?_⟩;fail "go";rename_i p3 hp3;have S3:=a0b hp3 (.tup [.int ((2 ^ j:Nat):Int),.int (lf:Int),.int (wh:Int)]);have w3:Sm3 (upd G p3 (.tup [.int ((2 ^ j:Nat):Int),.int (lf:Int),.int (wh:Int)])) p3 ⟨j,lf,wh⟩:=a0c;generalize upd G p3 (.tup [.int ((2 ^ j:Nat):Int),.int (lf:Int),.int (wh:Int)]) = G3 at S3 w3 ⊢;have g_l:=S3 _ _ f_l;have k1:=key j fun _=>hj;rw [if_pos hlf] at k1;have B3:But l G3 (upd G3 l (.lst (refs as ++ [.ref p3]))):=But.upd;refine q _ (ss ++ [⟨j,lf,wh⟩]) (fun c o h1 h2 e=>B3 c o h2 (S3 _ _ (oth1 c o h1 e))) ⟨dx,as ++ [p3],B3 _ _ (Ne.symm npl) (S3 _ _ f_p),by rw [a0c,a5a],?_,k1,by rw [List.length_append,List.length_append]; show _ + 1 <= _ + 1; omega⟩;exact (f_s.mono fun a d (x:Sm3 G a d)=>(B3 _ _ (c6y (S3 _ _ x) g_l (by intro z; cases z)) (S3 _ _ x):Sm3 _ a d)).snoc (B3 _ _ (c6y w3 g_l (by intro z; cases z)) w3)
 ·have hlf:lf=0:=by omega
  fail "go";have k0:=key 0 fun z=>(z hlf).elim;rw [if_neg (fun z=>z hlf)] at k0;exact q _ ss (fun c o h1 _ e=>oth1 c o h1 e) ⟨dx,as,f_p,f_l,f_s,k0,by rw [List.length_append]; show _ <= _ + 1; omega⟩
include T_N c8x in theorem c6p (F:Fun K "__init__" "Span.__init__" b1v f fd):a2s P w K mg base CX0 3 f fd ["self","numbers"] (b0g K c1w):=by
 refine F.ok b6m (by fail "l4") (fun cdv A outer s H vs Q E hr h=>?_);obtain ⟨p,n,dx,us,rfl,hp,hn,hu,q⟩:=h
 refine ⟨_,(a0e (b4v (pv 0) (a5x a0d) rfl)
   (a0e (b4v (pv 0) a0p rfl)
   (a0k (b4k PassesOwn.never rfl (a4p (pv 1)) (a2r (i:=2) b6m.nd rfl (Or.inl rfl)) (a0k (a3f (c6t c8x hr a0x (pv 0) (a0a (pv 2) a0d)))))))),?_⟩
 fail "st";fail "go";rename_i l hl;have npl:p ≠ l:=fun z=>by rw [z,hl] at hp; cases hp
 refine a9b (by rw [a0q npl]; exact hp) (T_N.cl _) (T_N.n_sums _) (by show 0 < 1000; decide) ?_;fail "go";refine a9b a0c (T_N.cl _) (T_N.n_taken _) (by show 1 < 1000; decide) ?_;rw [upd_upd,first_put];have f_p:(upd (upd H l (.lst [])) p (.ins (c1w .span) dx (b4p l 0))) p=some (.ins (c1w .span) dx (b4p l 0)):=a0c;have f_l:(upd (upd H l (.lst [])) p (.ins (c1w .span) dx (b4p l 0))) l=some (.lst (refs [])):=by rw [a0q (Ne.symm npl)]; exact a0c
 have oth:∀ c o,c ≠ p->H c=some o->(upd (upd H l (.lst [])) p (.ins (c1w .span) dx (b4p l 0))) c=some o:=fun c o hc e=>by rw [a0q hc]; exact a0b hl _ _ _ e
 generalize upd (upd H l (.lst [])) p (.ins (c1w .span) dx (b4p l 0)) = G at f_p f_l oth ⊢;have nnp:n ≠ p:=c6y hn hp (by intro z; cases z);fail "go";refine b1x (fun P h=>⟨_,rfl,h⟩) (SqL.of (oth _ _ nnp hn)) (fun i σ H'=>∃ (u:Option V) (ss:List Sm),σ=[some (.ref p),some (.ref n),u]/\SnAt c1w H' p l (us.take i) ss/\∀ c o,c ≠ p->H c=some o->H' c=some o) ⟨none,[],rfl,⟨dx,[],f_p,f_l,.nil,SpOk.nil,Nat.le_refl _⟩,oth⟩ ?_ ?_ ?_
 ·rintro i σ H' _ ⟨u,ss,_,_,o⟩;exact SqL.of (o _ _ nnp hn)
 ·rintro i y σ H' hy ⟨u,ss,rfl,hS,o⟩;obtain ⟨v,rfl,hv⟩:=vn_at hy;obtain ⟨dx',as,hp',hl',hss,ok,hz⟩:=id hS;fail "go";refine a5z hp' (c9y _ _ (by decide +kernel) (by decide +kernel)) ?_;fail "go";refine ⟨p,l,v,us.take i,ss,rfl,hS,by rw [List.length_take]; omega,fun H2 ss' o2 hS2=>?_⟩;fail "go";refine ⟨_,ss',rfl,by rw [a1g hv]; exact hS2,fun c ob hc e=>o2 c ob hc (fun z=>by rw [z,hl] at e; cases e) (o c ob hc e)⟩
 ·rintro σ H' ⟨u,ss,rfl,hS,o⟩;rw [d2e,List.take_length] at hS;fail "go";exact q H' l ss o hl hS
include a6t T_N in theorem ok_Span_rank (F:Fun K "rank" "Span.rank" c0z f fd):a2s P w K mg base CX0 1 f fd ["self"] (c6j K c1w):=by
 refine F.ok sc_Span_rank (by fail "l4") (fun cdv A outer s H vs Q E hr h=>?_);obtain ⟨p,l,us,ss,rfl,hS,hu,q⟩:=h;refine ⟨_,(a0k (a0v (a2g (a4k) rfl a6t PySem.boot_len (a0a (a2y (pv 0) rfl) a0d)))),?_⟩;fail "st";fail "go";obtain ⟨dx,as,hp,hl,hss,ok,hz⟩:=hS;refine a2b hp (T_N.cl _) (T_N.n_sums _) (d0f _ _) ?_;have sl:SqL K H l (refs as):=SqL.of hl;fail "go";rw [a1a,hss.len];exact q
include a6t T_N c8j c9h in theorem ok_are_apart (F:Fun K "are_apart" "are_apart" c1n f fd):a2s P w K mg base CX0 5 f fd ["numbers"] (c6a K):=by
 refine F.ok sc_are_apart (by fail "l2") (fun cdv A outer s H vs Q E hr h=>?_);obtain ⟨l,us,rfl,hl,hu,q⟩:=h;refine ⟨_,(a0k (a0v (b7s (a8n) (d5a c8j hr a0x (c0d c9h hr a0x (a0a (pv 0) a0d))) (a2g (a4k) rfl a6t PySem.boot_len (a0a (pv 0) a0d)) (a1r _)))),?_⟩;fail "st";fail "go";intro xo dx nx ndx nxd;refine ⟨xo,l,dx,us,rfl,a0c,?_,hu,fun H5 l5 ss oth hl5 hS=>⟨rfl,?_⟩⟩
 ·rw [a0q (a0n hl nx),a0q (a0n hl ndx)];exact hl
 have S5:a2c H H5:=fun c o e=>by
  have n1:c ≠ xo:=a0n e nx;have n2:c ≠ dx:=a0n e ndx;exact oth c o n1 (by rw [a0q n1,a0q n2]; exact e)
 have l5':=S5 _ _ hl;obtain ⟨dx',as',hp',hl',hss,ok,hz⟩:=id hS;refine a5z hp' (c9y _ _ (by decide +kernel) (by decide +kernel)) ?_;fail "go";refine ⟨xo,l5,us,ss,rfl,hS,hu,?_⟩;have sl:SqL K H5 l (vn us):=SqL.of l5';fail "go";rw [d2e]
 have e:decide (((ss.length:Nat):Int) = ((us.length:Nat):Int)) = decide (ss.length=us.length):=by
  by_cases c:ss.length=us.length
  ·rw [decide_eq_true c,decide_eq_true (by rw [c])]
  ·rw [decide_eq_false c,decide_eq_false (by omega)]
 rw [e];exact q H5 ss S5 ok hz
include a0t a2d a8j a8g a1y a6t b6s a8v a3q c_fits in theorem d3v (F:Fun K "checked_row" "checked_row" b0w f fd):a2s P w K mg base (CXE P w) 2 f fd ["thing","n"] (c0m K a2f):=by
 refine F.okE b9y (by fail "l2") (fun cdv A outer s H vs Q E hr h=>?_);obtain ⟨v,n,rfl,hn,hq⟩:=h
 refine ⟨_,(a0e (a3s (PW.pt (c1q (b0t (a5u (c2b rfl a0t (pv 0) a8v b9d))) (b6n (a1e (d4b) (a2g (a4k) rfl a6t PySem.boot_len (a0a (pv 0) a0d)) a0p (a1r _))))) (a0k (a3x a3q a5r (a0a a1c a0d) rfl)) a1m)
   (a0e (a3s (b0t (a5u (a2g (b4x rfl) rfl b6s b9j (a0a (a7d (sc:=a0f b0w) rfl ⟨rfl,by decide +kernel,rfl,by decide +kernel,by decide +kernel,by decide +kernel,by decide +kernel⟩ (by show ("part":Str) ∉ (["thing","n"]:List Str); decide +kernel) (by show (".0":Str) ∉ (["thing","n"]:List Str); decide +kernel) b9y.nd rfl (pi_tup (pv 0)) (fun _ _ _ _=>a7j) (fun _ _ _ _=>(a1b a2d hr a0x (a0a (pv 0) a0d)))) a0d)))) (a0k (a3x a3q a5r (a0a a1c a0d) rfl)) a1m)
   (a0e (a3s (PW.pt (pw_and (a1e (d4b) (a0z (a0s) (pv 0) (a2j a1y) (fun _ _=>rfl)) a0p (a1r _)) (pw_and1 (a1e (d4b) (a0z (a0s) (pv 0) (a2j a1y) (fun _ _=>rfl)) a0p (a1r _))))) (a0k (a3x a3q a5r (a0a a1c a0d) rfl)) a1m)
   (a0e (a3s (PW.pt (c1q (b0t (a5u (a1b c_fits hr a0x (a0a (a0z (a0s) (pv 0) (a2j a8j) (fun _ _=>rfl)) (a0a (pv 1) a0d))))) (b6n (b0t (a5u (a1b c_fits hr a0x (a0a (a0z (a0s) (pv 0) (a2j a8g) (fun _ _=>rfl)) (a0a (pv 1) a0d)))))))) (a0k (a3x a3q a5r (a0a a1c a0d) rfl)) a1m)
   (a0k (a0v (pv 0))))))),?_⟩
 fail "st";fail "go"
 rcases rows_cases hq with ⟨t,ty,kt,hE⟩ | ⟨a,xs,rfl,ha,hl,hm,hE⟩ | ⟨a,x,y,z,bx,b_y,bz,rfl,ha,wx,wy,wz,hfin⟩
 ·refine a6n ty kt ?_;fail "go";exact ⟨by decide,hE H (a2c.refl _)⟩
 ·refine a6n (a8a.tup ha) a1u ?_;have ha':SqT K H a xs:=SqT.of ha;fail "go";refine iteN (fun c=>?_) (fun c=>(hl (by omega)).elim);fail "go";exact ⟨by decide,hE H (a2c.refl _)⟩
 ·refine a6n (a8a.tup ha) a1u ?_;have ha':SqT K H a [x,y,z]:=SqT.of ha;fail "go";refine iteN (fun c=>(c rfl).elim) (fun _=>?_);fail "go";refine b5v (fun P h=>⟨_,rfl,h⟩) ha' (fun i ys H'=>H' = H/\ys=([bx,b_y,bz].take i).map V.bl) (show (3:Nat) <= 1000 by decide) ⟨rfl,rfl⟩ ?_ ?_ ?_ ?_
  ·rintro i ys H' ⟨rfl,rfl⟩;rw [List.length_map,List.length_take];omega
  ·rintro i ys H' ⟨rfl,rfl⟩;exact ha'
  ·rintro i x' ys H' hx ⟨rfl,rfl⟩;fail "go"
   rcases i with _ | _ | _ | i
   ·cases hx;exact ⟨_,bx,rfl,wx,rfl,rfl⟩
   ·cases hx;exact ⟨_,b_y,rfl,wy,rfl,rfl⟩
   ·cases hx;exact ⟨_,bz,rfl,wz,rfl,rfl⟩
   ·simp at hx
  ·rintro ys H' ⟨rfl,rfl⟩ p hp;fail "go";refine c6d (bs:=[bx,b_y,bz]) (SqL.of a0c) ?_;have e:[bx,b_y,bz].all id=(bx && b_y && bz):=by cases bx <;> cases b_y <;> cases bz <;> rfl
   rw [e]
   rcases hfin with ⟨eb,hE⟩ | ⟨eb,m,xx,zz,rfl,rfl,rfl,hQ,hE⟩
   ·rw [eb];fail "go";exact ⟨by decide,hE _ (a0b hp _)⟩
   rw [eb];have bad:¬ Fit n m xx zz->∀ s:Str,[V.str s].length <= 1000/\E (.ref a2f) none (upd H' p (.lst (List.map V.bl (List.take [V.int m,V.int xx,V.int zz].length [bx,b_y,bz])))):=fun c s=>⟨by show (1:Nat) <= 1000; decide,hE c _ (a0b hp _)⟩;fail "go"
   by_cases hm0:m=0
   ·rw [decide_eq_true hm0];fail "go";refine ⟨xx,n,rfl,hn,?_⟩;fail "go";refine iteN (fun c=>?_) (fun c=>?_)
    ·fail "go";exact bad (fun f=>c f.2.1) _
    ·fail "go";refine ⟨zz,n,rfl,hn,?_⟩;fail "go";refine iteN (fun c2=>?_) (fun c2=>?_)
     ·fail "go";exact bad (fun f=>c2 f.2.2) _
     ·fail "go";exact hQ ⟨.inl hm0,c,c2⟩ _ (a0b hp _)
   ·rw [decide_eq_false hm0];fail "go"
    by_cases hm1:m=1
    ·rw [decide_eq_true hm1];fail "go";refine ⟨xx,n,rfl,hn,?_⟩;fail "go";refine iteN (fun c=>?_) (fun c=>?_)
     ·fail "go";exact bad (fun f=>c f.2.1) _
     ·fail "go";refine ⟨zz,n,rfl,hn,?_⟩;fail "go";refine iteN (fun c2=>?_) (fun c2=>?_)
      ·fail "go";exact bad (fun f=>c2 f.2.2) _
      ·fail "go";exact hQ ⟨.inr hm1,c,c2⟩ _ (a0b hp _)
    ·rw [decide_eq_false hm1];fail "go";exact bad (fun f=>f.1.elim hm0 hm1) _
include a0t a6u a6t b6s b1t b3c b4z c8t a2k in theorem d4a (F:Fun K "check_whole" "check_whole" a7z f fd):a2s P w K mg base (CXE P w) 6 f fd ["rows","n"] (c0b K):=by
 refine F.okE b3n (by fail "l4") (fun cdv A outer s H vs Q E hr h=>?_);obtain ⟨l,n,as,rs,rfl,hl,hW,hM,hn,q⟩:=h
 refine ⟨_,(a0e (a3s (PW.pt (c1q (b0t (a5u (c2b rfl a0t (pv 0) a6u a9r))) (b6n (a1e (d4b) (a2g (a4k) rfl a6t PySem.boot_len (a0a (pv 0) a0d)) (pv 1) (a1r _))))) (a0k (a3x b1t a5r (a0a a1c a0d) rfl)) a1m)
   (a0e (a3s (b0t (a5u (a2g (b4x rfl) rfl b6s b9j (a0a (a7d (sc:=a0f a7z) rfl ⟨rfl,by decide +kernel,rfl,by decide +kernel,by decide +kernel,by decide +kernel,by decide +kernel⟩ (by show ("row":Str) ∉ (["rows","n"]:List Str); decide +kernel) (by show (".0":Str) ∉ (["rows","n"]:List Str); decide +kernel) b3n.nd rfl (a4p (pv 0)) (fun _ _ _ _=>a7j) (fun _ _ _ _=>(a1b c8t hr a0x (a0a (pv 0) (a0a (pv 2) a0d))))) a0d)))) (a0k (a3x b1t a5r (a0a a1c a0d) rfl)) a1m)
   (a0e (a3s (b0t (a5u (a1b b3c hr a0x (a0a (pv 0) a0d)))) (a0k (a3x b1t a5r (a0a a1c a0d) rfl)) a1m)
   (a0k (a3s (b0t (a5u (a1b b4z hr a0x (a0a (a7d (sc:=a0f a7z) rfl ⟨rfl,by decide +kernel,rfl,by decide +kernel,by decide +kernel,by decide +kernel,by decide +kernel⟩ (by show ("row":Str) ∉ (["rows","n"]:List Str); decide +kernel) (by show (".0":Str) ∉ (["rows","n"]:List Str); decide +kernel) b3n.nd rfl (a4p (pv 0)) (fun _ _ _ _=>a7j) (fun _ _ _ _=>(a1b a2k hr a0x (a0a (pv 0) (a0a (pv 2) a0d))))) a0d)))) (a0k (a3x b1t a5r (a0a a1c a0d) rfl)) a1m))))),?_⟩
 fail "st";fail "go";have lrs:as.length=rs.length:=hW.len;have lrn:=hM.len;refine iteN (fun c=>(c (by rw [a1a]; omega)).elim) (fun _=>?_);fail "go";refine a5e (fun P h=>⟨_,rfl,h⟩) (SqL.of hl) (fun i ys H'=>a2c H H'/\ys=(List.replicate i true).map V.bl) (by rw [a1a]; omega) ⟨a2c.refl _,rfl⟩ ?_ ?_ ?_ ?_
 ·rintro i ys H' ⟨_,rfl⟩;rw [List.length_map,List.length_replicate];exact Nat.le_refl _
 ·rintro i ys H' ⟨s,_⟩;exact SqL.of (s _ _ hl)
 ·rintro i x ys H' hx ⟨s,rfl⟩;obtain ⟨a,ha,rfl⟩:=a3y hx;obtain ⟨r,hr,hra⟩:=hW.get ha;fail "go";refine ⟨a,n,r,rfl,Rt.same s hra,hM.ok r (List.mem_of_getElem? hr),hn,fun H2 s2=>⟨s.trans s2,?_⟩⟩;rw [List.replicate_succ',List.map_append];rfl
 ·rintro ys H1 ⟨s1,rfl⟩ p1 hp1;fail "go";refine c6d (SqL.of a0c) ?_;rw [all_rep];have S1:=s1.trans (a0b hp1 (.lst ((List.replicate (refs as).length true).map V.bl)));generalize upd H1 p1 (.lst ((List.replicate (refs as).length true).map V.bl)) = G1 at S1 ⊢;fail "go";refine ⟨l,as,rs,rfl,S1 _ _ hl,hW.mono fun a d x=>Rt.same S1 x,by omega,fun H2 s2=>?_⟩;rw [allB_true hM.com];have S2:=S1.trans s2;have W2:a6h (Rt K H2) as rs:=hW.mono fun a d x=>Rt.same S2 x;fail "go";refine a5e (fun P h=>⟨_,rfl,h⟩) (SqL.of (S2 _ _ hl)) (fun i ys H'=>H' = H2/\ys=vn ((rs.take i).map (sn n))) (by rw [a1a]; omega) ⟨rfl,rfl⟩ ?_ ?_ ?_ ?_
  ·rintro i ys H' ⟨_,rfl⟩;rw [d2e,List.length_map,List.length_take];omega
  ·rintro i ys H' ⟨rfl,_⟩;exact SqL.of (S2 _ _ hl)
  ·rintro i x ys H' hx ⟨rfl,rfl⟩;obtain ⟨b,hb,rfl⟩:=a3y hx;obtain ⟨r,hr,hrb⟩:=W2.get hb;have ok:=hM.ok r (List.mem_of_getElem? hr);fail "go";refine ⟨b,n,r,rfl,SqT.of hrb,ok.x,(ok.to40 hn).z,hn,rfl,?_⟩;rw [a1g hr,List.map_append,<- vn_app];rfl
  ·rintro ys H' ⟨rfl,rfl⟩ p4 hp4;rw [a1a,lrs,List.take_length];have S4:=S2.trans (a0b hp4 (.lst (vn (rs.map (sn n)))));have f4:(upd H' p4 (.lst (vn (rs.map (sn n))))) p4=some (.lst (vn (rs.map (sn n)))):=a0c;generalize upd H' p4 (.lst (vn (rs.map (sn n)))) = H4 at S4 f4 ⊢;fail "go";refine ⟨p4,rs.map (sn n),rfl,f4,by rw [List.length_map]; omega,fun H5 ss s5 ok hz=>?_⟩;rw [decide_eq_true (hM.apart ok hz)];fail "go";exact q H5 (S4.trans s5)
include a1k a2k in theorem ok_has_sign (F:Fun K "has_sign" "has_sign" c5f f fd):a2s P w K mg base CX0 2 f fd ["row","sign","n"] (d0n K):=by
 refine F.ok sc_has_sign (by fail "l4") (fun cdv A outer s H vs Q E hr h=>?_);obtain ⟨a,s,n,r,rfl,ha,ok,hn,q⟩:=h;refine ⟨_,(a0k (a0v (b7s (a8n) (a1b a1k hr a0x (a0a (a1b a2k hr a0x (a0a (pv 0) (a0a (pv 2) a0d))) (a0a (pv 1) a0d))) a0p (a1r _)))),?_⟩;fail "go";refine ⟨a,n,r,rfl,ha,ok.x,Nat.lt_of_lt_of_le ok.z (Nat.pow_le_pow_right (by decide) hn),hn,?_⟩;fail "go";refine ⟨_,s,rfl,?_⟩;fail "go";have e:∀ b:Bool,decide (bI b=1) = b:=by decide
 rw [e];exact q
include a8z b3p in theorem c9p (F:Fun K "without_sign" "without_sign" a9f f fd):a2s P w K mg base CX0 4 f fd ["rows","sign","leading","n"] (b7t K):=by
 refine F.ok b7b (by fail "l7") (fun cdv A outer s H vs Q E hr h=>?_);obtain ⟨l,a,k,n,as,rs,g,rfl,hl,hW,hz,ha,hok,hn,q⟩:=h;refine ⟨_,(a0k (a0v (a7d (sc:=a0f a9f) rfl ⟨rfl,by decide +kernel,rfl,by decide +kernel,by decide +kernel,by decide +kernel,by decide +kernel⟩ (by show ("row":Str) ∉ (["rows","sign","leading","n"]:List Str); decide +kernel) (by show (".0":Str) ∉ (["rows","sign","leading","n"]:List Str); decide +kernel) b7b.nd rfl (a4p (pv 0)) (fun _ _ _ _=>a7j) (fun _ _ _ _=>(c3g (a5u (a1b a8z hr a0x (a0a (pv 0) (a0a (pv 2) (a0a (pv 4) a0d))))) (a1b b3p hr c2g (a0a (pv 0) (a0a (pv 3) a0d))) (pv 0)))))),?_⟩;fail "st";fail "go";refine a5e (fun P h=>⟨_,rfl,h⟩) (SqL.of hl) (fun i ys H'=>a2c H H'/\∃ bs,ys=refs bs/\a6h (Rt K H') bs ((rs.take i).map (stp n k g))) (by rw [a1a]; omega) ⟨a2c.refl _,[],rfl,.nil⟩ ?_ ?_ ?_ ?_
 ·rintro i ys H' ⟨_,bs,rfl,e⟩;rw [a1a,e.len,List.length_map,List.length_take];omega
 ·rintro i ys H' ⟨s,_⟩;exact SqL.of (s _ _ hl)
 ·rintro i x ys H' hx ⟨s,bs,rfl,e⟩;obtain ⟨b,hb,rfl⟩:=a3y hx;obtain ⟨r,hr,hrb⟩:=hW.get hb;obtain ⟨ok,hc⟩:=hok r (List.mem_of_getElem? hr);have hb':=SqT.of (K:=K) (Rt.same s hrb);fail "go";refine ⟨b,k,n,r,rfl,hb',ok,hn,?_⟩;fail "go"
  by_cases c:(sn n r).testBit k=true
  ·rw [if_pos c];fail "go";refine ⟨b,a,r,g,rfl,hb',SqT.of (Rt.same s ha),fun _ p hp=>?_,fun z=>(z ((b3f _ _).1 hc)).elim⟩;refine ⟨s.trans (a0b hp _),bs ++ [p],a5a _ _,?_⟩;rw [a1g hr,List.map_append];refine (e.mono fun a d (x:Rt K H' a d)=>Rt.same (a0b hp _) x).snoc ?_;show Rt K _ p (stp n k g r);unfold stp;rw [if_pos c];exact a0c
  ·rw [if_neg c];fail "go";refine ⟨s,bs ++ [b],a5a _ _,?_⟩;rw [a1g hr,List.map_append];refine e.snoc ?_;show Rt K _ b (stp n k g r);unfold stp;rw [if_neg c];exact Rt.same s hrb
 ·rintro ys H' ⟨s,bs,rfl,e⟩ p hp;rw [a1a,hW.len,List.take_length] at e;exact q p _ bs (s.trans (a0b hp _)) (none_of s hp) a0c (e.mono fun a d (x:Rt K H' a d)=>Rt.same (a0b hp _) x)
include b4g a6u a8z b0x a6w in theorem ok_telling (F:Fun K "telling" "telling" c3b f fd):a2s P w K mg base (CXE P w) 7 f fd ["rows","n"] (d5w K):=by
 refine F.okE a7r (by fail "l4") (fun cdv A outer s H vs Q E hr h=>?_);obtain ⟨l,n,as,rs,rfl,hl,hW,hM,hn,q⟩:=h
 refine ⟨_,(a0e (a3f (a1b b0x hr c3z (a0a (pv 0) (a0a (pv 1) a0d))))
   (a0e (a0u (i:=2) a7r.nd rfl (Or.inl rfl) (a6x (b1e) rfl a6u a9r (a0a (pv 0) a0d)))
   (a0e (a0u (i:=3) a7r.nd rfl (Or.inl rfl) (a5x a0d))
   (a0e (b4k PassesOwn.leaving rfl (c9u rfl b4g (a0a (a0w (op_mul) a0p (pv 1)) a0d)) (a2r (i:=4) a7r.nd rfl (Or.inr rfl)) (a0e (d7m (i:=5) rfl (Or.inl rfl) (sc:=a0f c3b) rfl ⟨rfl,by decide +kernel,rfl,by decide +kernel,by decide +kernel,by decide +kernel,by decide +kernel⟩ (by show ("row":Str) ∉ (["rows","n","rest","told","sign","leading","first"]:List Str); decide +kernel) (by show (".0":Str) ∉ (["rows","n","rest","told","sign","leading","first"]:List Str); decide +kernel) a7r.nd rfl (a4p (pv 2)) (fun _ _ _ _=>(d0u (a5u (a1b a8z hr a0x (a0a (pv 0) (a0a (pv 5) (a0a (pv 2) a0d))))))) (fun _ _ _ _=>(pv 0)))
   (a0k (a3s (a1e (d2k (b3u hr)) (pv 5) (a5x a0d) (a1r _)) (a0e (a0u (i:=6) a7r.nd rfl (Or.inl rfl) (a0z (b8h) (pv 5) a0p (fun _ _=>rfl)))
   (a0e (a0u (i:=2) a7r.nd rfl (Or.inl rfl) (a1b a6w hr a0x (a0a (pv 2) (a0a (pv 4) (a0a (pv 6) (a0a (pv 1) a0d))))))
   (a0k (a0u (i:=3) a7r.nd rfl (Or.inl rfl) (a0w (c5x) (a1b a6w hr a0x (a0a (pv 3) (a0a (pv 4) (a0a (pv 6) (a0a (pv 1) a0d))))) (a5x (a0a (pv 6) a0d))))))) a1m))))
   (a0k (a0v (pv 3))))))),?_⟩
 fail "st";fail "go";refine ⟨l,n,as,rs,rfl,hl,hW,hM,hn,fun H1 s1=>?_⟩;have sl1:SqL K H1 l (refs as):=SqL.of (s1 _ _ hl);fail "go";refine ⟨l,refs as,rfl,.inl sl1,fun pr hpr=>?_⟩;have S1:=s1.trans (a0b hpr (.lst (refs as)));have f1:(upd H1 pr (.lst (refs as))) pr=some (.lst (refs as)):=a0c;generalize upd H1 pr (.lst (refs as)) = G1 at S1 f1 ⊢;fail "go";rename_i pt hpt;have S2:=S1.trans (a0b hpt (.lst []));have f2:=a0b hpt (.lst []) _ _ f1;have f3:(upd G1 pt (.lst [])) pt=some (.lst (refs [])):=a0c;have npt:H pt=none:=none_of S1 hpt;generalize upd G1 pt (.lst []) = G2 at S2 f2 f3 ⊢;have W2:a6h (Rt K G2) as rs:=hW.mono fun a d x=>Rt.same S2 x;have lrn:=hM.len;refine st_for_range (n:=2 * n) (by omega) (fun P h=>?_) (fun i σ H'=>∃ (u1 u2 u3:Option V) (pr pt:Addr) (bs cs:List Addr) (b6r told:List Row),σ=[some (.ref l),some (.int n),some (.ref pr),some (.ref pt),u1,u2,u3]/\H' pr=some (.lst (refs bs))/\a6h (Rt K H') bs b6r/\H' pt=some (.lst (refs cs))/\a6h (Rt K H') cs told/\a2c H H'/\H pt=none/\(tlF n rs i=(b6r,told)/\TF n (b6r ++ told)/\told.length <= i)/\b6r.length=n) ⟨none,none,none,pr,pt,as,[],rs,[],rfl,f2,W2,f3,.nil,S2,npt,⟨rfl,⟨by rw [List.append_nil]; exact hM.ok,by rw [List.append_nil]; exact hM.com⟩,Nat.le_refl _⟩,lrn⟩ ?_ ?_
 ·fail "go";rw [show (2:Int) * (n:Int) = ((2 * n:Nat):Int) by push_cast; rfl];exact h
 ·rintro i σ H' hi ⟨u1,u2,u3,pr,pt,bs,cs,b6r,told,rfl,hpr,hB,hpt,hC,hS,hn0,⟨hF,hT,hTl⟩,hlen⟩;have lbs:bs.length=n:=hB.len.trans hlen;have okr:∀ r ∈ b6r,r.Ok n:=fun r hr=>hT.ok r (List.mem_append_left _ hr);fail "go";refine a5e (fun P h=>⟨_,rfl,h⟩) (SqL.of hpr) (fun j ys H''=>H'' = H'/\∃ zs,ys=refs zs/\a6h (Rt K H') zs ((b6r.take j).filter fun r=>(sn n r).testBit i)) (by rw [a1a]; omega) ⟨rfl,[],rfl,.nil⟩ ?_ ?_ ?_ ?_
  ·rintro j ys H'' ⟨_,zs,rfl,e⟩;rw [a1a,e.len];exact Nat.le_trans (List.length_filter_le _ _) (by rw [List.length_take]; omega)
  ·rintro j ys H'' ⟨rfl,_⟩;exact SqL.of hpr
  ·rintro j x ys H'' hx ⟨rfl,zs,rfl,e⟩;obtain ⟨b,hb,rfl⟩:=a3y hx;obtain ⟨r,hr,hrb⟩:=hB.get hb;fail "go";refine ⟨b,i,n,r,rfl,SqT.of hrb,okr r (List.mem_of_getElem? hr),hn,?_⟩;rw [a1g hr,List.filter_append]
   by_cases c:(sn n r).testBit i=true
   ·refine ⟨_,rfl,?_⟩;rw [if_pos c];fail "go";refine ⟨rfl,zs ++ [b],a5a _ _,?_⟩;rw [show [r].filter (fun r=>(sn n r).testBit i) = [r] from by simp [c]];exact e.snoc hrb
   ·refine ⟨_,rfl,?_⟩;rw [if_neg c];refine ⟨rfl,zs,rfl,?_⟩;rw [show [r].filter (fun r=>(sn n r).testBit i) = [] from by simp [c],List.append_nil];exact e
  ·rintro ys H'' ⟨rfl,zs,rfl,e⟩ p5 hp5;rw [a1a,hB.len,List.take_length] at e;have S5:=a0b hp5 (.lst (refs zs));have f5:(upd H'' p5 (.lst (refs zs))) p5=some (.lst (refs zs)):=a0c;generalize upd H'' p5 (.lst (refs zs)) = H5 at S5 f5 ⊢;fail "go";rename_i p6 hp6;have S6:=S5.trans (a0b hp6 (.lst []));have f6:=a0b hp6 (.lst []) _ _ f5;have f6':(upd H5 p6 (.lst [])) p6=some (.lst (refs [])):=a0c;generalize upd H5 p6 (.lst []) = H6 at S6 f6 f6' ⊢;have E6:=e.mono fun a d (x:Rt K H'' a d)=>Rt.same S6 x;have B6:=hB.mono fun a d (x:Rt K H'' a d)=>Rt.same S6 x;have C6:=hC.mono fun a d (x:Rt K H'' a d)=>Rt.same S6 x;have r6:=S6 _ _ hpr;have t6:=S6 _ _ hpt;have s6:=hS.trans S6
   have lcs:cs.length <= 80:=by
    rw [hC.len];omega
   have hflt:∀ r,r ∈ (b6r.filter fun r=>(sn n r).testBit i) ↔ r ∈ b6r/\(sn n r).testBit i=true:=fun r=>List.mem_filter;clear hB hC hpr hpt hS e S5 f5 hp5 S6 hp6 W2 f1 f2 f3 S1 S2 s1 sl1 npt;refine st_neRL (SqL.of f6) (SqL.of f6') E6 .nil fun cb hcb=>?_
   cases hz:(b6r.filter fun r=>(sn n r).testBit i) with
   | nil=>
    rw [hz] at hcb hflt
    have cb0:cb=false:=by cases cb with
     | false=>rfl
     | true=>exact absurd rfl (hcb.1 rfl)
    subst cb0;fail "go";refine ⟨_,_,_,pr,pt,bs,cs,b6r,told,rfl,r6,B6,t6,C6,s6,hn0,⟨?_,hT,by omega⟩,hlen⟩;rw [tlF,hF,hz]
   | cons g gs=>
    rw [hz] at hcb E6 hflt;have cb1:cb=true:=hcb.2 (by intro z; cases z);subst cb1
    cases E6 with
    | cons hzg E7=>
     rename_i z zs';obtain ⟨hg,hgb⟩:=(hflt g).1 List.mem_cons_self;fail "go";refine b6f (SqL.of f6) (b2d (j:=0) (refs_at (as:=z :: zs') (i:=0) (a:=z) rfl)) ?_;fail "go";refine ⟨pr,z,i,n,bs,b6r,g,rfl,r6,B6,by omega,hzg,fun r hr=>⟨okr r hr,hT.com r (List.mem_append_left _ hr) g (List.mem_append_left _ hg)⟩,hn,fun p7 H7 bs' s7 np7 f7 W7=>?_⟩;fail "go";refine ⟨pt,z,i,n,cs,told,g,rfl,s7 _ _ t6,C6.mono fun a d x=>Rt.same s7 x,by omega,Rt.same s7 hzg,fun r hr=>⟨hT.ok r (List.mem_append_right _ hr),hT.com r (List.mem_append_right _ hr) g (List.mem_append_left _ hg)⟩,hn,fun p8 H8 cs' s8 np8 f8 W8=>?_⟩;fail "go";rename_i p9 hp9;have l8:cs'.length=cs.length:=by rw [W8.len,List.length_map,C6.len]
     refine st_cat (a0b hp9 _ _ _ f8) a0c (by rw [a1a]; show _ + 1 <= _; omega) fun p10 hp10=>?_;have S9:=s8.trans ((a0b hp9 (.lst [.ref z])).trans (a0b hp10 (.lst (refs cs' ++ [.ref z]))));have n10:H8 p10=none:=none_of (a0b hp9 (.lst [.ref z])) hp10;have S89:=(a0b hp9 (.lst [.ref z])).trans (a0b hp10 (.lst (refs cs' ++ [.ref z])));fail "go";exact ⟨_,_,_,p7,p10,bs',cs' ++ [z],b6r.map (stp n i g),told.map (stp n i g) ++ [g],rfl,S9 _ _ f7,W7.mono fun a d (x:Rt K H7 a d)=>Rt.same S9 x,by rw [a0c,a5a],(W8.mono fun a d (x:Rt K H8 a d)=>Rt.same S89 x).snoc (Rt.same (s7.trans S9) hzg),s6.trans (s7.trans S9),none_of (s6.trans (s7.trans s8)) n10,⟨by rw [tlF,hF,hz],hT.step hg,by rw [List.length_append,List.length_map]; show _ + 1 <= _; omega⟩,by rw [List.length_map]; exact hlen⟩
 ·rintro σ H' ⟨u1,u2,u3,pr,pt,bs,cs,b6r,told,rfl,hpr,hB,hpt,hC,hS,hn0,⟨hF,hT,hTl⟩,hlen⟩;fail "go";exact q pt H' cs hS hn0 hpt (by rw [hF]; exact hC)
include a1d in theorem ok__law_bits (F:Fun K "_law_bits" "_law_bits" c1b f fd):a2s P w K mg base CX0 2 f fd ["_law_draw","_law_k","_law_n"] (c5q K):=by
 refine F.ok c5t (by fail "l3") (fun cdv A outer s H vs Q E hr h=>?_);obtain ⟨c,k,n,rfl,hk,hn,q⟩:=h
 refine ⟨_,(a0e (a0u (i:=3) c5t.nd rfl (Or.inl rfl) (a0w (a7p) (a0w (d7p) (a1b a1d hr a0x (a0a (pv 0) (a0a (pv 1) a0d))) a0p) (a1b a1d hr a0x (a0a (pv 0) (a0a (a0w (a7p) (pv 1) a0p) a0d)))))
   (a0k (a0v (a0w (a6r) (pv 3) (a0w (a8k) a0p (pv 2)))))),?_⟩
 fail "go";refine ⟨c,k,rfl,by omega,fun m1 h1=>?_⟩;fail "go";refine st_i ⟨by omega,by omega⟩ ?_;fail "go";refine ⟨c,k + 1,by push_cast; rfl,by omega,fun m2 h2=>?_⟩;fail "go";rename_i m em hm;exact q m hm
include a1d b2s in theorem d7q (F:Fun K "_law_signs" "_law_signs" b7w f fd):a2s P w K mg base CX0 3 f fd ["_law_draw","_law_n"] (c2d K):=by
 refine F.ok a3p (by fail "l2") (fun cdv A outer s H vs Q E hr h=>?_);obtain ⟨c,n,rfl,h0,hn,q⟩:=h
 refine ⟨_,(a0e (a0u (i:=2) a3p.nd rfl (Or.inl rfl) (a1b b2s hr a0x (a0a (pv 0) (a0a a0p (a0a (pv 1) a0d)))))
   (a0e (a0u (i:=3) a3p.nd rfl (Or.inl rfl) (a1b b2s hr a0x (a0a (pv 0) (a0a a0p (a0a (pv 1) a0d)))))
   (a0e (a0u (i:=4) a3p.nd rfl (Or.inl rfl) (a0w (a6r) (a1b a1d hr a0x (a0a (pv 0) (a0a a0p a0d))) a0p))
   (a0e (a3s (a1e (op_lt) (pv 4) a0p (a1r _)) (a0e (a0u (i:=5) a3p.nd rfl (Or.inl rfl) (a0w (a8k) a0p (a0w (a6r) (a1b a1d hr a0x (a0a (pv 0) (a0a a0p a0d))) (pv 1))))
   (a0e (a0u (i:=6) a3p.nd rfl (Or.inl rfl) (a0w (a8k) a0p (a0w (a6r) (a1b a1d hr a0x (a0a (pv 0) (a0a a0p a0d))) (pv 1))))
   (a0e (a0u (i:=2) a3p.nd rfl (Or.inl rfl) (a0z (b8h) (a5x (a0a a0p (a0a (pv 5) (a0a (pv 5) (a0a (a0w (op_or) (pv 5) (pv 6)) a0d))))) (a0w (a6r) (a1b a1d hr a0x (a0a (pv 0) (a0a a0p a0d))) a0p) (fun _ _=>rfl)))
   (a0k (a0u (i:=3) a3p.nd rfl (Or.inl rfl) (a0z (b8h) (a5x (a0a (pv 5) (a0a a0p (a0a (pv 5) (a0a (pv 6) a0d))))) (a0w (a6r) (a1b a1d hr a0x (a0a (pv 0) (a0a a0p a0d))) a0p) (fun _ _=>rfl))))))) a1m)
   (a0e (a3s (PW.pt (pw_and (a1e (a8n) (pv 2) a0p (a1r _)) (pw_and1 (a1e (a8n) (pv 3) a0p (a1r _))))) (a0k (a0u (i:=3) a3p.nd rfl (Or.inl rfl) a0p)) a1m)
   (a0k (a0v (a1w (a0a (pv 2) (a0a (pv 3) a0d)))))))))),?_⟩
 fail "st";fail "go";refine ⟨c,10,n,rfl,by omega,hn,fun xs hxs=>?_⟩;fail "go";refine ⟨c,12,n,rfl,by omega,hn,fun zs hzs=>?_⟩;fail "go";refine ⟨c,14,rfl,by omega,fun m1 h1=>?_⟩;fail "go";refine b6p (fun _=>?_) (fun _=>?_)
 ·fail "go";refine ⟨c,15,rfl,by omega,fun m2 h2=>?_⟩;fail "go";refine ⟨c,16,rfl,by omega,fun m3 h3=>?_⟩;fail "go";rename_i t1 et1 ht1 t2 et2 ht2 l1 kl1;refine ⟨c,17,rfl,by omega,fun m4 h4=>?_⟩;fail "go";obtain ⟨x1,ex1,mx1⟩:=at4b m4 0 (2 ^ t1) (2 ^ t1) (2 ^ t1 ||| 2 ^ t2)
  have p1:(2:Nat) ^ t1 < 2 ^ n:=Nat.pow_lt_pow_right (by decide) ht1;have p2:(2:Nat) ^ t2 < 2 ^ n:=Nat.pow_lt_pow_right (by decide) ht2;have p0:=Nat.two_pow_pos n
  have lx1:x1 < 2 ^ n:=by
   simp only [List.mem_cons,List.not_mem_nil,or_false] at mx1
   rcases mx1 with rfl | rfl | rfl | rfl
   ·exact p0
   ·exact p1
   ·exact p1
   ·exact Nat.or_lt_two_pow p1 p2
  fail "go";rename_i l2 kl2;refine ⟨c,18,rfl,by omega,fun m5 h5=>?_⟩;fail "go";obtain ⟨x2,ex2,mx2⟩:=at4b m5 (2 ^ t1) 0 (2 ^ t1) (2 ^ t2)
  have lx2:x2 < 2 ^ n:=by
   simp only [List.mem_cons,List.not_mem_nil,or_false] at mx2
   rcases mx2 with rfl | rfl | rfl | rfl
   ·exact p1
   ·exact p0
   ·exact p1
   ·exact p2
  fail "go";refine b6p (fun c1=>?_) (fun c1=>?_)
  ·fail "go";refine b6p (fun c2=>?_) (fun c2=>?_)
   ·fail "go";rename_i p hp;exact q p _ x1 1 (by fail "sm") a0c ⟨lx1,Nat.one_lt_two_pow (by omega),.inr (by decide)⟩
   ·fail "go";rename_i p hp;exact q p _ x1 x2 (by fail "sm") a0c ⟨lx1,lx2,by omega⟩
  ·fail "go";rename_i p hp;exact q p _ x1 x2 (by fail "sm") a0c ⟨lx1,lx2,by omega⟩
 ·have S0:=a2c.refl H;fail "go";refine b6p (fun c1=>?_) (fun c1=>?_)
  ·fail "go";refine b6p (fun c2=>?_) (fun c2=>?_)
   ·fail "go";rename_i p hp;exact q p _ xs 1 (S0.trans (a0b hp _)) a0c ⟨hxs,Nat.one_lt_two_pow (by omega),.inr (by decide)⟩
   ·fail "go";rename_i p hp;exact q p _ xs zs (S0.trans (a0b hp _)) a0c ⟨hxs,hzs,by omega⟩
  ·fail "go";rename_i p hp;exact q p _ xs zs (S0.trans (a0b hp _)) a0c ⟨hxs,hzs,by omega⟩
include a8j a8g a9q in theorem ok_weight_of (F:Fun K "weight_of" "weight_of" c1k f fd):a2s P w K mg base CX0 2 f fd ["row"] (c6k K):=by
 refine F.ok sc_weight_of (by fail "l2") (fun cdv A outer s H vs Q E hr h=>?_);obtain ⟨a,r,rfl,ha,q⟩:=h;refine ⟨_,(a0k (a0v (a1b a9q hr a0x (a0a (a0w (op_or) (a0z (a0s) (pv 0) (a2j a8j) (fun _ _=>rfl)) (a0z (a0s) (pv 0) (a2j a8g) (fun _ _=>rfl))) a0d)))),?_⟩;fail "st";unfold Row.V at ha;fail "go";exact ⟨_,rfl,q⟩
include a3q a5d in theorem ok_is_row (F:Fun K "is_row" "is_row" d7s f fd):a2s P w K mg base CX0 3 f fd ["thing","n"] (sp_is_row K):=by
 refine F.ok sc_is_row (by fail "l3") (fun cdv A outer s H vs Q E hr h=>?_);obtain ⟨a,n,r,rfl,ha,ok,hn,q⟩:=h
 refine ⟨_,(a0e (ps_tryQ (psx_expr (pex_fn a5d hr (a0a (pv 0) (a0a (pv 1) a0d)))))
   (a0k (a0v pe_bl))),?_⟩
 fail "go";refine ⟨_,n,rfl,by omega,.inl ⟨a,r,rfl,ha,ok,fun H' s=>?_⟩⟩;fail "go";exact q H' s
include T_M a9p a2d in theorem c0r (F:Fun K "__init__" "Machine.__init__" a7w f fd):a2s P w K mg base (CXE P w) 2 f fd ["self","n","most"] (a7g K a6g a4m):=by
 refine F.okE c0q (by fail "l4") (fun cdv A outer s H vs Q E hr h=>?_);obtain ⟨p,v,m,k,rfl,dx,hp,hq⟩:=h
 refine ⟨_,(a0e (a3s (PW.pt (c1q (b0t (a5u (a1b a2d hr a0x (a0a (pv 1) a0d)))) (c1q (a1e (op_lt) (pv 1) a0p (a1r _)) (b6n (a1e (op_gt) (pv 1) (pv 2) (a1r _)))))) (a0k (a3x a9p a5r (a0a a1c a0d) rfl)) a1m)
   (a0k (b4v (pv 0) (pv 1) rfl))),?_⟩
 fail "st";fail "go"
 rcases hq with ⟨n,rfl,h1,hm,q⟩ | ⟨hb,qE⟩
 ·refine ⟨_,true,rfl,WN.int K H _,?_⟩;fail "go";refine b6p (fun c=>absurd c (by omega)) (fun _=>?_);fail "go";refine b6p (fun c=>absurd c (by omega)) (fun _=>?_);fail "go";exact a9b hp (T_M.cl k) (T_M.n_n k) (by decide) q
 ·rcases hb with hw | ⟨i,rfl,hi⟩
  ·refine ⟨v,false,rfl,hw,?_⟩;fail "go";exact ⟨by decide,qE H (a2c.refl _)⟩
  ·refine ⟨_,true,rfl,WN.int K H _,?_⟩;fail "go";refine b6p (fun c=>?_) (fun c=>?_)
   ·fail "go";exact ⟨by decide,qE H (a2c.refl _)⟩
   ·fail "go";refine b6p (fun c2=>?_) (fun c2=>by omega);fail "go";exact ⟨by decide,qE H (a2c.refl _)⟩
include T_M a9p a2n a5s in theorem c4e (F:Fun K "__init__" "Exact.__init__" a9z f fd):a2s P w K mg base (CXE P w) 3 f fd ["self","n"] (a8s K a6g a4m):=by
 refine F.okE c5m (by fail "l2") (fun cdv A outer s H vs Q E hr h=>?_);obtain ⟨p,v,rfl,dx,hp,hq⟩:=h
 refine ⟨_,(a0e (a3f (pe_cm a2n hr c3z (a0a (pv 0) (a0a (pv 1) (a0a (a2j a5s) a0d)))))
   (a0k (b4v (pv 0) (pe_disp (pps_cons a0p (a1w (a0a a0p (a0a a0p a0d))) pps_nil) rfl rfl (List.cons_ne_nil _ _) (Nat.le_of_ble_eq_true rfl)) rfl))),?_⟩
 fail "st";fail "go"
 rcases hq with ⟨n,rfl,h1,hm,q⟩ | ⟨hb,qE⟩
 rotate_left
 ·exact ⟨p,v,6,.ex,rfl,dx,hp,.inr ⟨hb,qE⟩⟩
 refine ⟨p,_,6,.ex,rfl,dx,hp,.inl ⟨n,rfl,h1,hm,?_⟩⟩;fail "go";refine st_disp1 (fun p1 hp1=>?_);fail "go";rename_i p2 hp2;refine st_disp2 (a0b hp2 _ _ _ a0c) ?_;obtain ⟨g1,g2,g3⟩:=disp_at (K:=K) (b:=0) hp1 hp2;generalize upd (upd (upd (upd H p (.ins (a6g .ex) dx [("n",.int (n:Int))])) p1 (.dK [])) p2 (.tup [.int 1,.int 0])) p1 (.dK [(.inl 0,.ref p2)]) = G at g1 g2 g3 ⊢;fail "go";refine a9b (g1 _ _ a0c) (T_M.cl .ex) (T_M.n_amounts .ex) (by simp) ?_;have hpp:p1 ≠ p:=fun z=>by rw [z,a0c] at hp1; cases hp1
 have hH1:H p1=none:=by rw [a0q hpp] at hp1; exact hp1
 have hB:But p G (upd G p (.ins (a6g .ex) dx [("n",.int (n:Int)),("amounts",.ref p1)])):=But.upd;refine q p1 _ (fun c o hc e=>hB _ _ hc (g1 _ _ (by rw [a0q hc]; exact e))) hH1 ⟨dx,a0c⟩ ⟨_,hB _ _ hpp g2,g3.stay fun y ys s=>?_⟩;exact d8g hB (g1 _ _ a0c) s
include T_M a9p a2n b2x b4g in theorem c5b (F:Fun K "__init__" "Signs.__init__" a7a f fd):a2s P w K mg base (CXE P w) 3 f fd ["self","n"] (a9a K a6g a4m):=by
 refine F.okE b4q (by fail "l2") (fun cdv A outer s H vs Q E hr h=>?_);obtain ⟨p,v,rfl,dx,hp,hq⟩:=h
 refine ⟨_,(a0e (a3f (pe_cm a2n hr c3z (a0a (pv 0) (a0a (pv 1) (a0a (a2j b2x) a0d)))))
   (a0k (b4v (pv 0) (a7d (sc:=a0f a7a) rfl ⟨rfl,by decide +kernel,rfl,by decide +kernel,by decide +kernel,by decide +kernel,by decide +kernel⟩ (by show ("k":Str) ∉ (["self","n"]:List Str); decide +kernel) (by show (".0":Str) ∉ (["self","n"]:List Str); decide +kernel) b4q.nd rfl (c9u rfl b4g (a0a (pv 1) a0d)) (fun _ _ _ _=>a7j) (fun _ _ _ _=>(a1w (a0a a0p (a0a a0p (a0a (a0w (a8k) a0p (pv 0)) a0d)))))) rfl))),?_⟩
 fail "st";fail "go"
 rcases hq with ⟨n,rfl,h1,hm,q⟩ | ⟨hb,qE⟩
 rotate_left
 ·exact ⟨p,v,40,.sg,rfl,dx,hp,.inr ⟨hb,qE⟩⟩
 refine ⟨p,_,40,.sg,rfl,dx,hp,.inl ⟨n,rfl,h1,hm,?_⟩⟩;have g0:(upd H p (.ins (a6g .sg) dx [("n",.int (n:Int))])) p=some (.ins (a6g .sg) dx [("n",.int (n:Int))]):=a0c;have gB:But p H (upd H p (.ins (a6g .sg) dx [("n",.int (n:Int))])):=But.upd;generalize upd H p (.ins (a6g .sg) dx [("n",.int (n:Int))]) = G at g0 gB ⊢;fail "go";refine c2h (n:=n) (by omega) (fun P h=>⟨_,rfl,h⟩) (fun i ys H'=>a2c G H'/\RL K H' ((List.range i).map fun k=>⟨0,0,2 ^ k⟩) ys) ⟨a2c.refl _,.nil⟩ ?_ ?_ ?_
 ·rintro i ys H' ⟨_,h2⟩;have:=h2.len;rw [List.length_map,List.length_range] at this;omega
 ·rintro i ys H' hi ⟨h1,h2⟩;refine st_yes ?_;fail "go";rename_i p2 hp2;refine ⟨h1.trans (a0b hp2 _),?_⟩;rw [List.range_succ,List.map_append];exact (h2.stay fun y ys s=>a0b hp2 _ _ _ s).snoc a0c
 ·rintro ys H' ⟨h1,h2⟩ p1 hp1;have k1:=a0b hp1 (.lst ys) _ _ (h1 _ _ g0);fail "go";refine a9b k1 (T_M.cl .sg) (T_M.n_kept .sg) (by simp) ?_;have hB:But p (upd H' p1 (.lst ys)) (upd (upd H' p1 (.lst ys)) p (.ins (a6g .sg) dx [("n",.int (n:Int)),("kept",.ref p1)])):=But.upd;have hpp:p1 ≠ p:=fun z=>by rw [z,h1 _ _ g0] at hp1; cases hp1
  refine q _ (fun c o hc e=>hB _ _ hc (a0b hp1 _ _ _ (h1 _ _ (gB _ _ hc e)))) ⟨dx,p1,ys,a0c,hB _ _ hpp a0c,?_⟩;exact (h2.stay fun y ys s=>a0b hp1 _ _ _ s).stay fun y ys s=>hB _ _ (fun z=>by rw [z,k1] at s; cases s) s
include T_M a3a a3d b9f b1h in theorem d8z (F:Fun K "do" "Machine.do" b8m f fd):a2s P w K mg base (CXE P w) 7 f fd ["self","words"] (c2k K a8f a6g a0h a0g a0j a0m a1n a1v):=by
 refine F.okE d6p (by fail "l3") (fun cdv A outer s H vs Q E hr h=>?_);obtain ⟨x,v,n,rfl,hn,hor⟩:=h;refine ⟨_,(a0k (a3f (c6t b9f hr a0x (pv 0) (a0a (a1b b1h hr c3z (a0a (pv 1) (a0a (a2y (pv 0) rfl) a0d))) a0d)))),?_⟩
 rcases hor with ⟨w,d,rfl,hw,ok,hor⟩ | ⟨hm,C,hb,qE⟩
 rotate_left
 ·fail "st"
  rcases hm with ⟨dx,a,hx⟩ | ⟨dx,a,hx⟩
  ·fail "go";refine a5z (d:=MK.ex) hx rfl ?_;fail "go";refine a2b hx (T_M.cl .ex) (T_M.n_n .ex) rfl ?_;fail "go";refine ⟨v,n,rfl,?_⟩
   rcases hb with ⟨rfl,hw⟩ | ⟨rfl,a,k,is,rfl,wd,hr⟩
   ·exact .inl ⟨hw,qE⟩
   ·exact .inr ⟨a,k,is,rfl,wd,fun z=>(hr z).elim,fun _=>qE⟩
  ·fail "go";refine a5z (d:=MK.sg) hx rfl ?_;fail "go";refine a2b hx (T_M.cl .sg) (T_M.n_n .sg) rfl ?_;fail "go";refine ⟨v,n,rfl,?_⟩
   rcases hb with ⟨rfl,hw⟩ | ⟨rfl,a,k,is,rfl,wd,hr⟩
   ·exact .inl ⟨hw,qE⟩
   ·exact .inr ⟨a,k,is,rfl,wd,fun z=>(hr z).elim,fun _=>qE⟩
 have wd:WdAt H w d.k (d.w.map fun x:Nat=>(x:Int)):=⟨by rw [<- d6k]; exact hw,by rw [List.length_map]; exact ok.len,d1y ok.nd⟩
 have rng:∀ i ∈ d.w.map (fun x:Nat=>(x:Int)),0 <= i/\i < (n:Int):=fun i hi=>by
  obtain ⟨x,hx,rfl⟩:=List.mem_map.mp hi;have:=ok.lt x hx;omega
 have hw1000:∀ i ∈ d.w,i <= 1000:=fun i hi=>by have:=ok.lt i hi; omega
 rcases hor with ⟨a,ws,⟨dx,hx⟩,hA,nd,hl,hT,q⟩ | ⟨rs,⟨dx,a,xs,hx,ha,hR⟩,hl,q⟩
 ·fail "st";fail "go";refine a5z (d:=MK.ex) hx rfl ?_;fail "go";refine a2b hx (T_M.cl .ex) (T_M.n_n .ex) rfl ?_;fail "go";refine ⟨_,n,rfl,.inr ⟨w,d.k,_,rfl,wd,fun _ pd d3 H3 hS3 hd3 hk3 hw3=>?_,fun z=>(z rng).elim⟩⟩;obtain rfl:d3=d:=dd_eq hk3 hw3;fail "go";refine ⟨x,pd,a,n,d3,ws,rfl,⟨dx,hS3 _ _ hx⟩,hd3,ok.nd,hw1000,hA.stay hS3,nd,hl,hT.to hS3,fun p H4 hB hT4 hp hE hW=>?_⟩;fail "go";exact q p H4 (fun c o hc e nt=>hB _ _ hc (hS3 _ _ e) nt) hT4 (b5g hS3 hp) hE hW
 ·fail "st";fail "go";refine a5z (d:=MK.sg) hx rfl ?_;fail "go";refine a2b hx (T_M.cl .sg) (T_M.n_n .sg) rfl ?_;fail "go";refine ⟨_,n,rfl,.inr ⟨w,d.k,_,rfl,wd,fun _ pd d3 H3 hS3 hd3 hk3 hw3=>?_,fun z=>(z rng).elim⟩⟩;obtain rfl:d3=d:=dd_eq hk3 hw3;fail "go";refine ⟨x,pd,n,d3,rs,rfl,⟨dx,a,xs,hS3 _ _ hx,hS3 _ _ ha,hR.stay fun y ys s=>hS3 _ _ s⟩,hl,hd3,hw1000,fun H4 hB hE=>?_⟩;fail "go";exact q H4 (fun c o hc e=>hB _ _ hc (hS3 _ _ e)) hE
include a1h b3d c9z in theorem ok_added (F:Fun K "added" "added" s_added f fd):a2s P w K mg base CX0 2 f fd ["one","other"] (sp_added K):=by
 refine F.ok c8v (by fail "l4") (fun cdv A outer s H vs Q E hr h=>?_);obtain ⟨a,b,W,O,rfl,hW,hO,ndW,lW,lO,q⟩:=h
 refine ⟨_,(a0e (a0u (i:=2) c8v.nd rfl (Or.inl rfl) (a6x (d4r) rfl c9z boot_dict (a0a (pv 0) a0d)))
   (a0e (c4v (b4k PassesOwn.never rfl (b9k (pv 1)) (c0h rfl (a2x (a2r (i:=3) c8v.nd rfl (Or.inl rfl)) (a2x (a2r (i:=4) c8v.nd rfl (Or.inl rfl)) b4d))) (a0k (a3f (a1b b3d hr a0x (a0a (pv 2) (a0a (pv 3) (a0a (pv 4) a0d))))))))
   (a0k (a0v (a1b a1h hr a0x (a0a (pv 2) a0d)))))),?_⟩
 obtain ⟨kvW,ha,rW⟩:=id hW;obtain ⟨kvs,hb,hWR⟩:=id hO;fail "st";fail "go";refine st_dict ha fun p hp=>?_;fail "go";have hpb:p ≠ b:=Ne.symm (a0n hb hp);refine a7q (fun P h=>⟨_,rfl,h⟩) (a0b hp _ _ _ hb) (fun o i σ H'=>∃ (u0 u1:Option V) (kvs':List (Key × V)),σ=[some (.ref a),some (.ref b),some (.ref p),u0,u1]/\H' b=some (.frz o (.dK kvs))/\H' p=some (.dK kvs')/\WR K H' (d4j W (O.take i)) kvs'/\But b H H') ?_ ?_ ?_ ?_
 ·intro o;refine ⟨none,none,kvW,rfl,a0c,by rw [a0q hpb]; exact a0c,rW.stay fun y ys s=>(But.upd (f:=b)).tup (a0b hp _ _ _ hb) _ _ ((a0b hp _).tup s),fun c o' hc e=>?_⟩;rw [a0q hc];exact a0b hp _ _ _ e
 ·rintro o i σ H' ⟨u0,u1,kvs',_,h1,_⟩;exact h1
 ·rintro o i k v σ H' x hget ⟨u0,u1,kvs',rfl,h1,h2,h3,h5⟩ hx;obtain ⟨c,pp,a',e1,rfl,rfl,sq⟩:=hWR.get hget;have hil:i < O.length:=(List.getElem?_eq_some_iff.mp e1).1;have sq':SqT K (upd H' x (.tup [kV (.inl ((c:Nat):Int)),.ref a'])) a' [.int pp.1,.int pp.2]:=(a0b hx _).tup (h5.tup hb _ _ sq);have hp2:=a0b hx (.tup [kV (.inl ((c:Nat):Int)),.ref a']) _ _ h2;have ha2:=a0b hx (.tup [kV (.inl ((c:Nat):Int)),.ref a']) _ _ h1;have hB2:But b H (upd H' x (.tup [kV (.inl ((c:Nat):Int)),.ref a'])):=fun c o' hc e=>a0b hx _ _ _ (h5 _ _ hc e);have h3':=h3.stay (K:=K) (H':=upd H' x (.tup [kV (.inl ((c:Nat):Int)),.ref a'])) (fun y ys s=>(a0b hx _).tup s);have ht0:SqT K (upd H' x (.tup [kV (.inl ((c:Nat):Int)),.ref a'])) x [.int ((c:Nat):Int),.ref a']:=SqT.of a0c;generalize upd H' x (.tup [kV (.inl ((c:Nat):Int)),.ref a']) = G at sq' hp2 ha2 hB2 h3' ht0 ⊢;have hlen:=c8u (O.take i) W;rw [List.length_take] at hlen;fail "go";refine ⟨p,a',c,rfl,pp,_,_,sq',hp2,h3',by omega,fun G2 kvs2 g1 g2 g3=>?_⟩;fail "go";refine ⟨_,_,kvs2,rfl,g3 _ _ (Ne.symm hpb) ha2,g1,?_,fun c o' hc e=>g3 _ _ (a0n e hp) (hB2 _ _ hc e)⟩;rw [adds_step e1];exact g2
 ·rintro o σ H' ⟨u0,u1,kvs',rfl,h1,h2,h3,h5⟩;rw [hWR.len,List.take_length] at h3
  have SS:a2c H (upd H' b (.dK kvs)):=fun c o' e=>by
   by_cases hc:c=b
   ·subst hc;rw [hb] at e;rw [a0c];exact e
   ·rw [a0q hc];exact h5 _ _ hc e
  have hWW:a9d K (upd H' b (.dK kvs)) p (d4j W O):=⟨kvs',by rw [a0q hpb]; exact h2,h3.stay (c4m h1)⟩;have hlen:=c8u O W;fail "go";refine ⟨p,_,rfl,hWW,adds_nd _ _ ndW,by omega,fun p2 H2 s2 np2 hW2=>?_⟩;fail "go";exact q p2 H2 (SS.trans s2) (b5g SS np2) hW2
include a6v a8j a8g a1y a9q a5w in theorem ok_acted_on (F:Fun K "acted_on" "acted_on" c4a f fd):a2s P w K mg base CX0 3 f fd ["whole","row"] (d1k K):=by
 refine F.ok b1j (by fail "l4") (fun cdv A outer s H vs Q E hr h=>?_);obtain ⟨a,w,ws,r,rfl,⟨kvs,ha,hWR⟩,ok,hl,hw,q⟩:=h
 refine ⟨_,(a0e (a0u (i:=2) b1j.nd rfl (Or.inl rfl) c0p)
   (a0e (c4v (b4k PassesOwn.never rfl (b9k (pv 0)) (c0h rfl (a2x (a2r (i:=3) b1j.nd rfl (Or.inl rfl)) (a2x (a2r (i:=4) b1j.nd rfl (Or.inl rfl)) b4d))) (a0e (a0u (i:=5) b1j.nd rfl (Or.inl rfl) (a0w (a7p) (a0z (a0s) (pv 1) (a2j a1y) (fun _ _=>rfl)) (a1b a9q hr a0x (a0a (a0w (b0s) (pv 3) (a0z (a0s) (pv 1) (a2j a8g) (fun _ _=>rfl))) a0d))))
   (a0k (d2t (hu_of hr) (pv 2) (a0w (a4x) (pv 3) (a0z (a0s) (pv 1) (a2j a8j) (fun _ _=>rfl))) (a1b a6v hr a0x (a0a (pv 4) (a0a (a0w (a7p) (a0w (op_mul) a0p (pv 5)) (a1b a5w hr a0x (a0a (pv 1) a0d))) a0d))) rfl)))))
   (a0k (a0v (pv 2))))),?_⟩
 fail "st";fail "go";rename_i p hp;have hpa:p ≠ a:=Ne.symm (a0n ha hp);refine a7q (fun P h=>⟨_,rfl,h⟩) (a0b hp _ _ _ ha) (fun o i σ H'=>∃ (u0 u1 u2:Option V) (kvs':List (Key × V)),σ=[some (.ref a),some (.ref w),some (.ref p),u0,u1,u2]/\H' a=some (.frz o (.dK kvs))/\H' p=some (.dK kvs')/\WR K H' ((ws.take i).map (tE r)) kvs'/\But a H H') ?_ ?_ ?_ ?_
 ·intro o;refine ⟨none,none,none,[],rfl,a0c,by rw [a0q hpa]; exact a0c,.nil,fun c o' hc e=>?_⟩;rw [a0q hc];exact a0b hp _ _ _ e
 ·rintro o i σ H' ⟨u0,u1,u2,kvs',_,h1,_⟩;exact h1
 ·rintro o i k v σ H' x hget ⟨u0,u1,u2,kvs',rfl,h1,h2,h3,h5⟩ hx;obtain ⟨b,pp,a',e1,rfl,rfl,sq⟩:=hWR.get hget;have hil:i < ws.length:=(List.getElem?_eq_some_iff.mp e1).1;have sq':SqT K (upd H' x (.tup [kV (.inl ((b:Nat):Int)),.ref a'])) a' [.int pp.1,.int pp.2]:=(a0b hx _).tup (h5.tup ha _ _ sq);have hw':=(a0b hx (.tup [kV (.inl ((b:Nat):Int)),.ref a'])).tup (h5.tup ha _ _ hw);have hp2:=a0b hx (.tup [kV (.inl ((b:Nat):Int)),.ref a']) _ _ h2;have ha2:=a0b hx (.tup [kV (.inl ((b:Nat):Int)),.ref a']) _ _ h1;have hB2:But a H (upd H' x (.tup [kV (.inl ((b:Nat):Int)),.ref a'])):=fun c o' hc e=>a0b hx _ _ _ (h5 _ _ hc e);have h3':=h3.stay (K:=K) (H':=upd H' x (.tup [kV (.inl ((b:Nat):Int)),.ref a'])) (fun y ys s=>(a0b hx _).tup s);have ht0:SqT K (upd H' x (.tup [kV (.inl ((b:Nat):Int)),.ref a'])) x [.int ((b:Nat):Int),.ref a']:=SqT.of a0c;generalize upd H' x (.tup [kV (.inl ((b:Nat):Int)),.ref a']) = G at sq' hw' hp2 ha2 hB2 h3' ht0 ⊢;have hw2:=hw';unfold Row.V at hw2;fail "go";refine ⟨_,rfl,?_⟩;fail "go";refine ⟨w,r,rfl,hw',?_⟩
  have e2:(2:Int) * ((r.m:Int) + ((pop (b &&& r.z):Nat):Int)) + ((pop (r.x &&& r.z):Nat):Int) = ((trn r b:Nat):Int):=by
   unfold trn;rw [Nat.and_comm b];push_cast;omega
  fail "go";rw [e2];refine ⟨a',trn r b,pp,rfl,sq',fun t G2 hS2 ht2=>?_⟩;fail "go";have hpG:=hS2 _ _ hp2;have h3G:=h3'.stay (K:=K) (H':=G2) fun y ys s=>hS2.tup s;have hB:But p G2 (upd G2 p (.dK (d1s kvs' (.inl ((b ^^^ r.x:Nat):Int)) (.ref t)))):=But.upd;have hlen:=h3'.len;rw [List.length_map,List.length_take] at hlen;refine ⟨p,_,rfl,d5s hpG (by omega),_,_,_,_,rfl,hB _ _ (Ne.symm hpa) (hS2 _ _ ha2),a0c,?_,fun c o' hc e=>hB _ _ (a0n e hp) (hS2 _ _ (hB2 _ _ hc e))⟩;rw [tE_step ok e1];exact (h3G.stay (fun y ys s=>hB.tup hpG y ys s)).put (hB.tup hpG _ _ ht2)
 ·rintro o σ H' ⟨u0,u1,u2,kvs',rfl,h1,h2,h3,h5⟩;fail "go";rw [hWR.len,List.take_length] at h3;refine q p _ (fun c o' e=>?_) hp ⟨kvs',by rw [a0q hpa]; exact h2,h3.stay (c4m h1)⟩
  by_cases hc:c=a
  ·subst hc;rw [ha] at e;rw [a0c];exact e
  ·rw [a0q hc];exact h5 _ _ hc e
include a8j a8g a1y d9h b9p in theorem ok_half_by (F:Fun K "half_by" "half_by" c9j f fd):a2s P w K mg base CX0 4 f fd ["whole","row","value"] (d4t K):=by
 refine F.ok sc_half_by (by fail "l5") (fun cdv A outer s H vs Q E hr h=>?_);obtain ⟨a,w,v,ws,r,rfl,hW,nd,hl,hw,q⟩:=h;refine ⟨_,(a0k (a0v (a1b d9h hr a0x (a0a (pv 0) (a0a (a1b b9p hr a0x (a0a (pv 0) (a0a (a1w (a0a (a0w (a4x) (a0z (a0s) (pv 1) (a2j a1y) (fun _ _=>rfl)) (pv 2)) (a0a (a0z (a0s) (pv 1) (a2j a8j) (fun _ _=>rfl)) (a0a (a0z (a0s) (pv 1) (a2j a8g) (fun _ _=>rfl)) a0d)))) a0d))) a0d))))),?_⟩;fail "st";unfold Row.V at hw;fail "go";rename_i p hp;refine ⟨a,p,ws,⟨r.m ^^^ v,r.x,r.z⟩,rfl,hW.stay (a0b hp _),nd,by omega,SqT.of a0c,fun p1 H1 hS1 hp1 hW1=>?_⟩;have S1:=(a0b hp (.tup [.int ((r.m ^^^ v:Nat):Int),.int (r.x:Int),.int (r.z:Int)])).trans hS1;fail "go";refine ⟨a,p1,ws,_,rfl,hW.stay S1,hW1,nd,hl,by rw [List.length_map]; exact hl,fun p2 H2 hS2 hp2 hW2=>?_⟩;fail "go";exact q p2 H2 (S1.trans hS2) (b5g S1 hp2) hW2
include b4g a1k in theorem ok_places (F:Fun K "places" "places" c7z f fd):a2s P w K mg base CX0 2 f fd ["number"] (sp_places K):=by
 refine F.ok sc_places (by fail "l1") (fun cdv A outer s H vs Q E hr h=>?_);obtain ⟨n,rfl,hn,q⟩:=h;refine ⟨_,(a0k (a0v (a7d (sc:=a0f c7z) rfl ⟨rfl,by decide +kernel,rfl,by decide +kernel,by decide +kernel,by decide +kernel,by decide +kernel⟩ (by show ("k":Str) ∉ (["number"]:List Str); decide +kernel) (by show (".0":Str) ∉ (["number"]:List Str); decide +kernel) sc_places.nd rfl (c9u rfl b4g (a0a (pe_bm0 PySem.F.plainAttrs_int PySem.F.slot_int_bit_length PySem.F.type_int_bit_length c2r (pv 0)) a0d)) (fun _ _ _ _=>(d0u (a1e (a8n) (a1b a1k hr a0x (a0a (pv 1) (a0a (pv 0) a0d))) a0p (a1r _)))) (fun _ _ _ _=>(pv 0))))),?_⟩;fail "st";fail "go";have hb:Builtin.Int.intBits (n:Int) <= 100:=bits_le hn;refine c2h (n:=Builtin.Int.intBits (n:Int)) (by omega) (fun P h=>?_) (fun i ys H'=>ys=vn (plc n i)/\H' = H) ⟨rfl,rfl⟩ ?_ ?_ ?_
 ·fail "go";exact h
 ·rintro i ys H' ⟨rfl,rfl⟩;unfold vn;rw [List.length_map,d6z];exact cnt_le _ _
 ·rintro i ys H' hi ⟨rfl,rfl⟩;fail "go";refine ⟨n,i,rfl,?_⟩;fail "go";refine b6p (fun c=>?_) (fun c=>?_)
  ·have e:n.testBit i=true:=by
    revert c; unfold bI; cases n.testBit i <;> decide
   fail "go";refine ⟨?_,rfl⟩;rw [plc,if_pos e];unfold vn;rw [List.map_append];rfl
  ·have e:n.testBit i=false:=by
    revert c; unfold bI; cases n.testBit i <;> decide
   refine ⟨?_,rfl⟩;rw [plc,e];rfl
 ·rintro ys H' ⟨rfl,rfl⟩;exact q
include a7f in theorem c6w (F:Fun K "parts_of" "Span.parts_of" b1k f fd):a2s P w K mg base CX0 2 f fd ["self","number"] (b6d K c1w):=by
 refine F.ok b6e (by fail "l5") (fun cdv A outer s H vs Q E hr h=>?_);obtain ⟨p,l,x,us,ss,rfl,hS,hu,q⟩:=h
 refine ⟨_,(a0e (a0u (i:=2) b6e.nd rfl (Or.inl rfl) (c6t a7f hr a0x (pv 0) (a0a (pv 1) (a0a a0p a0d))))
   (a0k (a0v (c3g (a1e (a8n) (a0z (a0s) (pv 2) a0p (fun _ _=>rfl)) a0p (a1r _)) (a0z (a0s) (pv 2) a0p (fun _ _=>rfl)) c0f)))),?_⟩
 fail "st";obtain ⟨dx,as,hp,hl,hss,ok,hz⟩:=id hS;fail "go";refine a5z hp (c9y _ _ (by decide +kernel) (by decide +kernel)) ?_;fail "go";refine ⟨p,l,x,0,us,ss,rfl,hS,hu,fun q2 H' s hq2=>?_⟩;have hq':SqT K H' q2 [.int ((red ss x 0).1:Int),.int ((red ss x 0).2:Int)]:=SqT.of hq2;fail "go";refine b6p (fun c=>?_) (fun c=>?_)
 ·fail "go";exact (q H' s).1 (by omega)
 ·fail "go";exact (q H' s).2 (by omega)
include b3p in theorem d6m (F:Fun K "product_of" "product_of" b8e f fd):a2s P w K mg base CX0 4 f fd ["rows"] (c2e K):=by
 refine F.ok b0z (by fail "l3") (fun cdv A outer s H vs Q E hr h=>?_);obtain ⟨l,as,us,rfl,hl,hW,hz,hcom,q⟩:=h
 refine ⟨_,(a0e (a0u (i:=1) b0z.nd rfl (Or.inl rfl) (a1w (a0a a0p (a0a a0p (a0a a0p a0d)))))
   (a0e (b4k PassesOwn.never rfl (a4p (pv 0)) (a2r (i:=2) b0z.nd rfl (Or.inl rfl)) (a0k (a0u (i:=1) b0z.nd rfl (Or.inl rfl) (a1b b3p hr c2g (a0a (pv 1) (a0a (pv 2) a0d))))))
   (a0k (a0v (pv 1))))),?_⟩
 fail "st";fail "go";rename_i p0 hp0;refine b1x (fun P h=>⟨_,rfl,h⟩) (SqL.of (a0b hp0 _ _ _ hl)) (fun i σ H'=>∃ (u:Option V) (c:Addr),σ=[some (.ref l),some (.ref c),u]/\a2c H H'/\H' c=some (.tup (pr (us.take i)).V)) ⟨none,p0,rfl,a0b hp0 _,a0c⟩ ?_ ?_ ?_
 ·rintro i σ H' _ ⟨u,c,_,s,_⟩;exact SqL.of (s _ _ hl)
 ·rintro i x σ H' hx ⟨u,c,rfl,s,hc⟩;obtain ⟨a,ha,rfl⟩:=a3y hx;obtain ⟨r,hr,hra⟩:=hW.get ha;fail "go";refine ⟨c,a,pr (us.take i),r,rfl,SqT.of hc,SqT.of (Rt.same s hra),fun _ p hp=>?_,fun z=>(z ((b3f _ _).1 (hcom i r hr))).elim⟩;fail "go";refine ⟨_,p,rfl,s.trans (a0b hp _),?_⟩;rw [pr_take hr];exact a0c
 ·rintro σ H' ⟨u,c,rfl,s,hc⟩;fail "go";rw [a1a,hW.len,List.take_length] at hc;exact q c H' s hc
include a8j a8g b_max in theorem ok_widest (F:Fun K "widest" "widest" c8z f fd):a2s P w K mg base CX0 1 f fd ["rows"] (sp_widest K):=by
 refine F.ok sc_widest (by fail "l3") (fun cdv A outer s H vs Q E hr h=>?_);obtain ⟨l,as,rs,rfl,hl,hW,hz,h0,hok,q⟩:=h;refine ⟨_,(a0k (a0v (a2g (call_maxL rfl) rfl b_max d8k (a0a (a7d (sc:=a0f c8z) rfl ⟨rfl,by decide +kernel,rfl,by decide +kernel,by decide +kernel,by decide +kernel,by decide +kernel⟩ (by show ("row":Str) ∉ (["rows"]:List Str); decide +kernel) (by show (".0":Str) ∉ (["rows"]:List Str); decide +kernel) sc_widest.nd rfl (a4p (pv 0)) (fun _ _ _ _=>a7j) (fun _ _ _ _=>(pe_bm0K (K:=K) rfl PySem.F.plainAttrs_int PySem.F.slot_int_bit_length PySem.F.type_int_bit_length c2r (a2g (call_max2 rfl) rfl b_max d8k (a0a (a0z (ix_tupK (K:=K) rfl) (pv 0) (a2j a8j) (fun _ _=>rfl)) (a0a (a0z (ix_tupK (K:=K) rfl) (pv 0) (a2j a8g) (fun _ _=>rfl)) a0d)))))) a0d)))),?_⟩;fail "st";fail "go";refine a5e (fun P h=>⟨_,rfl,h⟩) (SqL.of hl) (fun i ys H'=>H' = H/\ys=vn ((rs.take i).map fun r=>Builtin.Int.intBits ((max r.x r.z:Nat):Int))) (by rw [a1a]; omega) ⟨rfl,rfl⟩ ?_ ?_ ?_ ?_
 ·rintro i ys H' ⟨_,rfl⟩;rw [d2e,List.length_map,List.length_take];omega
 ·rintro i ys H' ⟨rfl,_⟩;exact SqL.of hl
 ·rintro i x ys H' hx ⟨rfl,rfl⟩;obtain ⟨a,ha,rfl⟩:=a3y hx;obtain ⟨r,hr,hra⟩:=hW.get ha;have hra':SqT K H' a [.int (r.m:Nat),.int (r.x:Nat),.int (r.z:Nat)]:=SqT.of hra;fail "go";refine ⟨(r.x:Int),(r.z:Int),rfl,?_⟩
  have em:(if (r.z:Int) > (r.x:Int) then (r.z:Int) else (r.x:Int)) = ((max r.x r.z:Nat):Int):=by
   split <;> omega
  rw [em];fail "go";refine ⟨rfl,?_⟩;rw [a1g hr,List.map_append,<- vn_app];rfl
 ·rintro ys H' ⟨rfl,rfl⟩ p hp;rw [a1a,hW.len,List.take_length];fail "go";refine st_bestL (ns:=(rs.map fun r=>Builtin.Int.intBits ((max r.x r.z:Nat):Int)).map fun k:Nat=>(k:Int)) (by rw [<- d6k]; exact SqL.of a0c) (by rw [List.length_map,List.length_map,<- hW.len]; exact h0) fun M hM hall=>?_;obtain ⟨k,hk,rfl⟩:=List.mem_map.1 hM;obtain ⟨r0,hr0,rfl⟩:=List.mem_map.1 hk;refine q _ _ (a0b hp _) (bits_le (Nat.max_lt.2 ⟨(hok r0 hr0).x,(hok r0 hr0).z⟩)) fun r hr=>?_;have h1:=hall _ (List.mem_map.2 ⟨_,List.mem_map.2 ⟨r,hr,rfl⟩,rfl⟩);have h2:=bits_lt (max r.x r.z);have h3:=Nat.pow_le_pow_right (show 0 < 2 by decide) (show Builtin.Int.intBits ((max r.x r.z:Nat):Int) <= Builtin.Int.intBits ((max r0.x r0.z:Nat):Int) by omega);omega
include a1y T_N c9h a2k b2z c8r c8y b2w in theorem ok_made_of (F:Fun K "made_of" "made_of" b8q f fd):a2s P w K mg base CX0 5 f fd ["rows","row"] (d5c K):=by
 refine F.ok a8w (by fail "l5") (fun cdv A outer s H vs Q E hr h=>?_);obtain ⟨l,a,as,rs,o,rfl,hl,hW,hz,ha,hok,oko,hcom,q⟩:=h
 refine ⟨_,(a0e (a0u (i:=2) a8w.nd rfl (Or.inr rfl) (a1b c8r hr a0x (a0a (a0w (c5x) (pv 0) (a5x (a0a (pv 1) a0d))) a0d)))
   (a0e (a0u (i:=3) a8w.nd rfl (Or.inl rfl) (c6t b2z hr a0x (c0d c9h hr a0x (a0a (a7d (sc:=a0f b8q) rfl ⟨rfl,by decide +kernel,rfl,by decide +kernel,by decide +kernel,by decide +kernel,by decide +kernel⟩ (by show ("other":Str) ∉ (["rows","row","width","parts","numbers","product"]:List Str); decide +kernel) (by show (".0":Str) ∉ (["rows","row","width","parts","numbers","product"]:List Str); decide +kernel) a8w.nd rfl (a4p (pv 0)) (fun _ _ _ _=>a7j) (fun _ _ _ _=>(a1b a2k hr a0x (a0a (pv 0) (a0a (pv 3) a0d))))) a0d)) (a0a (a1b a2k hr a0x (a0a (pv 1) (a0a (pv 2) a0d))) a0d)))
   (a0e (a3s (a1e (op_isN) (pv 3) c0f (a1r _)) (a0k (a0v c0f)) a1m)
   (a0e (a0u (i:=4) a8w.nd rfl (Or.inl rfl) (a1b c8y hr a0x (a0a (pv 3) a0d)))
   (a0e (a0u (i:=5) a8w.nd rfl (Or.inl rfl) (a1b b2w hr a0x (a0a (a7d (sc:=a0f b8q) rfl ⟨rfl,by decide +kernel,rfl,by decide +kernel,by decide +kernel,by decide +kernel,by decide +kernel⟩ (by show ("k":Str) ∉ (["rows","row","width","parts","numbers","product"]:List Str); decide +kernel) (by show (".0":Str) ∉ (["rows","row","width","parts","numbers","product"]:List Str); decide +kernel) a8w.nd rfl (a4p (pv 4)) (fun _ _ _ _=>a7j) (fun _ _ _ _=>(a0z (c8d (K:=K) rfl) (pv 1) (pv 0) (fun _ _=>rfl)))) a0d)))
   (a0k (a0v (a1w (a0a (pv 4) (a0a (a0w (a4x) (a0z (a0s) (pv 5) (a2j a1y) (fun _ _=>rfl)) (a0z (a0s) (pv 1) (a2j a1y) (fun _ _=>rfl))) a0d)))))))))),?_⟩
 fail "st";fail "go";rename_i p1 hp1 p2 hp2;have S2:=(a0b hp1 (.lst [.ref a])).trans (a0b hp2 (.lst (refs as ++ [.ref a])));have f2:(upd (upd H p1 (.lst [.ref a])) p2 (.lst (refs as ++ [.ref a]))) p2=some (.lst (refs (as ++ [a]))):=by rw [a0c,a5a]
 generalize upd (upd H p1 (.lst [.ref a])) p2 (.lst (refs as ++ [.ref a])) = G2 at S2 f2 ⊢;have hW2:a6h (Rt K G2) as rs:=hW.mono fun a d x=>Rt.same S2 x;have lrs:as.length=rs.length:=hW.len;refine ⟨p2,as ++ [a],rs ++ [o],rfl,f2,hW2.snoc (S2 _ _ ha),by rw [List.length_append]; show _ + 1 <= _; omega,by rw [List.length_append]; show 0 < _ + 1; omega,fun r hr=>?_,fun wd H3 s3 hw hwx=>?_⟩
 ·rcases List.mem_append.1 hr with hr | hr
  ·exact hok r hr
  ·rw [List.mem_singleton.1 hr]; exact oko
 have hwr:∀ r ∈ rs,r.x < 2 ^ wd/\r.z < 2 ^ wd:=fun r hr=>hwx r (List.mem_append_left _ hr);have hwo:=hwx o (by simp);have S3:=S2.trans s3;have l3:=S3 _ _ hl;have W3:a6h (Rt K H3) as rs:=hW.mono fun a d x=>Rt.same S3 x;fail "go";refine a5e (fun P h=>⟨_,rfl,h⟩) (SqL.of l3) (fun i ys H'=>H' = H3/\ys=vn ((rs.take i).map fun r=>r.x ^^^ r.z * 2 ^ wd)) (by rw [a1a]; omega) ⟨rfl,rfl⟩ ?_ ?_ ?_ ?_
 ·rintro i ys H' ⟨_,rfl⟩;rw [d2e,List.length_map,List.length_take];omega
 ·rintro i ys H' ⟨rfl,_⟩;exact SqL.of l3
 ·rintro i x ys H' hx ⟨rfl,rfl⟩;obtain ⟨b,hb,rfl⟩:=a3y hx;obtain ⟨r,hr,hrb⟩:=W3.get hb;have hrm:=List.mem_of_getElem? hr;fail "go";refine ⟨b,wd,r,rfl,SqT.of hrb,(hwr r hrm).1,(hok r hrm).z,hw,rfl,?_⟩;rw [a1g hr,List.map_append,<- vn_app];rfl
 ·rintro ys H' ⟨rfl,rfl⟩ p4 hp4;rw [a1a,hW.len,List.take_length];generalize hus:(rs.map fun r=>r.x ^^^ r.z * 2 ^ wd) = us;have lus:us.length=rs.length:=by rw [<- hus,List.length_map]
  have S4:=S3.trans (a0b hp4 (.lst (vn us)));have f4:(upd H' p4 (.lst (vn us))) p4=some (.lst (vn us)):=a0c;generalize upd H' p4 (.lst (vn us)) = H4 at S4 f4 ⊢;fail "go";intro xo dx nx ndx nxd;refine ⟨xo,p4,dx,us,rfl,a0c,?_,by omega,fun H5 l5 ss oth hl5 hS=>⟨rfl,?_⟩⟩
  ·rw [a0q (a0n f4 nx),a0q (a0n f4 ndx)];exact f4
  have S5:a2c H4 H5:=fun c ob e=>oth c ob (a0n e nx) (by rw [a0q (a0n e nx),a0q (a0n e ndx)]; exact e);have S05:=S4.trans S5;obtain ⟨dx5,as5,hp5,_,_,okS,_⟩:=id hS;refine a5z hp5 (c9y _ _ (by decide +kernel) (by decide +kernel)) ?_;fail "go";refine ⟨a,wd,o,rfl,SqT.of (S05 _ _ ha),hwo.1,oko.z,hw,?_⟩;fail "go";refine ⟨xo,l5,o.x ^^^ o.z * 2 ^ wd,us,ss,rfl,hS,by omega,fun H6 s6=>⟨fun h0=>?_,fun hne=>?_⟩⟩
  ·obtain ⟨g1,g2,_⟩:=okS.left (o.x ^^^ o.z * 2 ^ wd);have hsel:=g2 h0;generalize (red ss (o.x ^^^ o.z * 2 ^ wd) 0).2=m at g1 hsel ⊢;have S6:=S05.trans s6;rw [lus] at g1;rw [<- hus] at hsel;have hL:Lsel rs m o:=(lsel_sn (fun s hs=>(hwr s hs).1) hwo.1 m).1 hsel;have hpl:pls m=plc m rs.length:=(plc_more (bits_lt m) (bits_le g1)).symm;have W6:a6h (Rt K H6) as rs:=hW.mono fun a d x=>Rt.same S6 x;have l6:SqL K H6 l (refs as):=SqL.of (S6 _ _ hl);fail "go";refine ⟨rfl,_,rfl,b6p (fun c=>by cases c) (fun _=>?_)⟩;fail "go";refine ⟨m,rfl,Nat.lt_of_lt_of_le g1 (Nat.pow_le_pow_right (by decide) (by omega)),fun p7 hp7=>?_⟩;rw [hpl];have S7:=S6.trans (a0b hp7 (.lst (vn (plc m rs.length))));have f7:(upd H6 p7 (.lst (vn (plc m rs.length)))) p7=some (.lst (vn (plc m rs.length))):=a0c;generalize upd H6 p7 (.lst (vn (plc m rs.length))) = H7 at S7 f7 ⊢;have kl:∀ k ∈ plc m rs.length,k < rs.length:=plc_lt m rs.length;have lk:(plc m rs.length).length <= 40:=by rw [d6z]; exact Nat.le_trans (cnt_le _ _) (by omega)
   have l7:SqL K H7 l (refs as):=SqL.of (S7 _ _ hl);have W7:a6h (Rt K H7) as rs:=hW.mono fun a d x=>Rt.same S7 x;generalize hks:plc m rs.length=ks at f7 kl lk ⊢;fail "go";refine a5e (fun P h=>⟨_,rfl,h⟩) (SqL.of f7) (fun i ys H'=>H' = H7/\∃ bs,ys=refs bs/\a6h (Rt K H7) bs (pk rs (ks.take i))) (by rw [d2e]; omega) ⟨rfl,[],rfl,.nil⟩ ?_ ?_ ?_ ?_
   ·rintro i ys H' ⟨_,bs,rfl,e⟩;rw [a1a,e.len];unfold pk;rw [List.length_map,List.length_take];omega
   ·rintro i ys H' ⟨rfl,_⟩;exact SqL.of f7
   ·rintro i x ys H' hx ⟨rfl,bs,rfl,e⟩;obtain ⟨k,rfl,hk⟩:=vn_at hx;have hkl:=kl k (List.mem_of_getElem? hk);have hkr:rs[k]? = some rs[k]:=List.getElem?_eq_getElem hkl;obtain ⟨b,hb,hbr⟩:=W7.get' hkr;fail "go";refine b6f l7 (b2d (refs_at hb)) ?_;refine ⟨rfl,bs ++ [b],a5a _ _,?_⟩
    have e2:pk rs (ks.take (i + 1)) = pk rs (ks.take i) ++ [rs[k]]:=by
     rw [a1g hk,pk_app];show _ ++ [rs.getD k ⟨0,0,0⟩] = _;rw [List.getD_eq_getElem?_getD,hkr];rfl
    rw [e2];exact e.snoc hbr
   ·rintro ys H' ⟨rfl,bs,rfl,e⟩ p8 hp8;rw [d2e,List.take_length] at e;have S8:=S7.trans (a0b hp8 (.lst (refs bs)));have f8:(upd H' p8 (.lst (refs bs))) p8=some (.lst (refs bs)):=a0c;have f78:=a0b hp8 (.lst (refs bs)) _ _ f7;have e8:=e.mono fun a d (x:Rt K H' a d)=>Rt.same (a0b hp8 (.lst (refs bs))) x;generalize upd H' p8 (.lst (refs bs)) = H8 at S8 f8 f78 e8 ⊢;fail "go";have pkm:=pk_mem kl;refine ⟨p8,bs,pk rs ks,rfl,f8,e8,by rw [e.len]; unfold pk; rw [List.length_map]; omega,fun i r hr=>pr_com' hcom (fun u hu=>pkm u (List.mem_of_mem_take hu)) (pkm r (List.mem_of_getElem? hr)),fun p9 H9 s9 hp9=>?_⟩;have S9:=S8.trans s9;have ha9:SqT K H9 a [.int (o.m:Nat),.int (o.x:Nat),.int (o.z:Nat)]:=SqT.of (S9 _ _ ha);have hp9':SqT K H9 p9 [.int ((pr (pk rs ks)).m:Nat),.int ((pr (pk rs ks)).x:Nat),.int ((pr (pk rs ks)).z:Nat)]:=SqT.of hp9;fail "go";rename_i p10 hp10;have S10:=S9.trans (a0b hp10 (.tup [.ref p7,.int (((pr (pk rs ks)).m ^^^ o.m:Nat):Int)]));refine (q _ S10).2 m p10 p7 g1 hL ?_ ?_
    ·rw [hks];exact a0b hp10 _ _ _ (s9 _ _ f78)
    ·rw [hks];exact a0c
  ·obtain ⟨_,_,g3⟩:=okS.left (o.x ^^^ o.z * 2 ^ wd);have hno:=g3 hne;fail "go";refine ⟨rfl,_,rfl,b6p (fun _=>?_) (fun c=>(c rfl).elim)⟩;fail "go";refine (q _ (S05.trans s6)).1 fun m hL=>hno m ?_;rw [<- hus];exact (lsel_sn (fun s hs=>(hwr s hs).1) hwo.1 m).2 hL
include h_lam in theorem d4m (F:Fun K "value_drawn" "value_drawn" b5r f fd):a2s P w K mg base CX0 4 f fd ["draw"] (b9x K):=by
 refine F.ok d3r (by fail "l0") (fun cdv A outer s H vs Q E hr h=>?_);obtain ⟨rfl,_,q⟩:=h;refine ⟨_,(a0k (a0v (c3g (a1e (op_isN) (pv 0) c0f (a1r _)) a0p (a0w (b0s) (pe_callE h_lam hr (pv 0)) a0p)))),?_⟩;fail "go";refine ⟨rfl,_,rfl,b6p (fun _=>?_) (fun c=>(c rfl).elim)⟩;fail "go";exact q
include T_M a9v in theorem c1v (F:Fun K "sure_value" "Exact.sure_value" a8c f fd):a2s P w K mg base CX0 5 f fd ["self","row"] (b1u K a6g):=by
 refine F.ok c0w (by fail "l6") (fun cdv A outer s H vs Q E hr h=>?_);obtain ⟨x,w,a,n,ws,r,rfl,⟨dx,hx⟩,hW,wn,hn,hw,ok,q⟩:=h;have hl:=wn.len hn
 refine ⟨_,(a0e (a3s (a1e (op_eqM (b3u hr)) (a1b a9v hr a0x (a0a (a2y (pv 0) rfl) (a0a (pv 1) (a0a a0p a0d)))) c0p (a1r _)) (a0k (a0v a0p)) a1m)
   (a0e (a3s (a1e (op_eqM (b3u hr)) (a1b a9v hr a0x (a0a (a2y (pv 0) rfl) (a0a (pv 1) (a0a a0p a0d)))) c0p (a1r _)) (a0k (a0v a0p)) a1m)
   (a0k (a0v c0f)))),?_⟩
 fail "st";fail "go";refine a2b hx (T_M.cl .ex) (T_M.n_amounts .ex) rfl ?_;fail "go";refine ⟨a,w,1,ws,r,rfl,hW,wn.nd,by omega,hw,fun p1 H1 S1 hp1 hW1=>?_⟩;fail "go";rename_i e1 he1;refine eq_nil (hW1.stay (a0b he1 _)) a0c (Wn.half (r:=⟨r.m ^^^ 1,r.x,r.z⟩) wn ok.x).nd fun c1=>⟨_,rfl,?_⟩;have S2:=S1.trans (a0b he1 (.dK []));generalize upd H1 e1 (.dK []) = H2 at S2 ⊢;refine iteB (fun _=>?_) (fun _=>?_)
 ·fail "go";exact q _ _ S2 (.inr ⟨_,rfl⟩)
 fail "go";refine a2b (S2 _ _ hx) (T_M.cl .ex) (T_M.n_amounts .ex) rfl ?_;fail "go";refine ⟨a,w,0,ws,r,rfl,hW.stay S2,wn.nd,by omega,S2.tup hw,fun p3 H3 S3 hp3 hW3=>?_⟩;fail "go";rename_i e2 he2;refine eq_nil (hW3.stay (a0b he2 _)) a0c (Wn.half (r:=⟨r.m ^^^ 0,r.x,r.z⟩) wn ok.x).nd fun c2=>⟨_,rfl,?_⟩;have S4:=(S2.trans S3).trans (a0b he2 (.dK []));generalize upd H3 e2 (.dK []) = H4 at S4 ⊢;refine iteB (fun _=>?_) (fun _=>?_)
 ·fail "go";exact q _ _ S4 (.inr ⟨_,rfl⟩)
 ·fail "go";exact q _ _ S4 (.inl rfl)
include T_M a9v in theorem d0j (F:Fun K "settle" "Exact.settle" b3s f fd):a2s P w K mg base CX0 5 f fd ["self","row","value"] (b8k K a6g):=by
 refine F.ok d0v (by fail "l7") (fun cdv A outer s H vs Q E hr h=>?_);obtain ⟨x,w,a,n,v,ws,r,rfl,⟨dx,hx⟩,hW,wn,hn,hw,ok,q⟩:=h;have hl:=wn.len hn;refine ⟨_,(a0k (b4v (pv 0) (a1b a9v hr a0x (a0a (a2y (pv 0) rfl) (a0a (pv 1) (a0a (pv 2) a0d)))) rfl)),?_⟩;fail "st";fail "go";refine a2b hx (T_M.cl .ex) (T_M.n_amounts .ex) rfl ?_;fail "go";refine ⟨a,w,v,ws,r,rfl,hW,wn.nd,by omega,hw,fun p H1 hS hp hW1=>?_⟩;have hx1:=hS _ _ hx;fail "go";refine a9b hx1 (T_M.cl .ex) (T_M.n_amounts .ex) (by simp) ?_;have hB:But x H1 (upd H1 x (.ins (a6g .ex) dx [("n",.int (n:Int)),("amounts",.ref p)])):=But.upd;exact q p _ (fun c o hc e=>hB _ _ hc (hS _ _ e)) ⟨dx,a0c⟩ (butI_wh hB hx1 hW1)
include T_M c3s in theorem c0u (F:Fun K "sure_value" "Signs.sure_value" a7x f fd):a2s P w K mg base CX0 6 f fd ["self","row"] (b2m K a6g):=by
 refine F.ok b1r (by fail "l5") (fun cdv A outer s H vs Q E hr h=>?_);obtain ⟨x,w,n,rs,r,rfl,⟨dx,a,xs,hx,ha,hR⟩,kp,hn,hw,ok,q⟩:=h;obtain ⟨as,rfl,hA⟩:=hR.refs;have p40:=Nat.pow_le_pow_right (show 0 < 2 by decide) (show n <= 40 by omega)
 refine ⟨_,(a0e (a0u (i:=2) b1r.nd rfl (Or.inl rfl) (a1b c3s hr a0x (a0a (a2y (pv 0) rfl) (a0a (pv 1) a0d))))
   (a0k (a0v (c3g (a1e (op_isN) (pv 2) c0f (a1r _)) c0f (a0z (a0s) (pv 2) a0p (fun _ _=>rfl)))))),?_⟩
 fail "st";fail "go";refine a2b hx (T_M.cl .sg) (T_M.n_kept .sg) rfl ?_;fail "go";refine ⟨a,w,as,rs,r,rfl,ha,hA,by rw [hA.len,kp.len]; omega,hw,fun s hs=>?_,?_,kp.com,fun H1 S1=>⟨fun hno=>?_,fun m p l hm hL hl hp=>?_⟩⟩
 ·have:=kp.ok s hs;exact ⟨this.m,Nat.lt_of_lt_of_le this.x p40,Nat.lt_of_lt_of_le this.z p40⟩
 ·exact ⟨ok.m,Nat.lt_of_lt_of_le ok.x p40,Nat.lt_of_lt_of_le ok.z p40⟩
 ·fail "go";refine ⟨rfl,_,rfl,b6p (fun _=>?_) (fun c=>(c rfl).elim)⟩;fail "go";exact q _ _ S1 (.inl ⟨rfl,hno⟩)
 ·have hp':=SqT.of (K:=K) hp;fail "go";refine ⟨rfl,_,rfl,b6p (fun c=>by cases c) (fun _=>?_)⟩;fail "go";exact q _ _ S1 (.inr ⟨_,rfl⟩)
include T_M a8j a8g a2q b3p in theorem c9s (F:Fun K "settle" "Signs.settle" a5k f fd):a2s P w K mg base CX0 4 f fd ["self","row","value"] (b7n K a6g):=by
 refine F.ok a6a (by fail "l8") (fun cdv A outer s H vs Q E hr h=>?_);obtain ⟨x,w,n,v,rs,r,c,cs,rfl,⟨dx,a,xs,hx,ha,hR⟩,kp,hn,hw,ok,hcs,q⟩:=h;obtain ⟨as,rfl,hA⟩:=hR.refs;have las:as.length=n:=hA.len.trans kp.len
 have bes:∀ s:Row,decide (pop (crs s r) % 2=0) = !a4s s r:=fun s=>by
  have:=b3f s r;unfold crs
  cases e:a4s s r with
  | false=>exact decide_eq_true (this.1 e)
  | true=>exact decide_eq_false fun z=>by rw [this.2 z] at e; cases e
 refine ⟨_,(a0e (d7m (i:=3) rfl (Or.inl rfl) (sc:=a0f a5k) rfl ⟨rfl,by decide +kernel,rfl,by decide +kernel,by decide +kernel,by decide +kernel,by decide +kernel⟩ (by show ("other":Str) ∉ (["self","row","value","staying","crossing","mended"]:List Str); decide +kernel) (by show (".0":Str) ∉ (["self","row","value","staying","crossing","mended"]:List Str); decide +kernel) a6a.nd rfl (a4p (a2y (pv 0) rfl)) (fun _ _ _ _=>(d0u (a5u (a1b a2q hr a0x (a0a (pv 0) (a0a (pv 2) a0d)))))) (fun _ _ _ _=>(pv 0)))
   (a0e (a0u (i:=4) a6a.nd rfl (Or.inr rfl) (a7d (sc:=a0f a5k) rfl ⟨rfl,by decide +kernel,rfl,by decide +kernel,by decide +kernel,by decide +kernel,by decide +kernel⟩ (by show ("other":Str) ∉ (["self","row","value","staying","crossing","mended"]:List Str); decide +kernel) (by show (".0":Str) ∉ (["self","row","value","staying","crossing","mended"]:List Str); decide +kernel) a6a.nd rfl (a4p (a2y (pv 0) rfl)) (fun _ _ _ _=>(d0u (b0t (a5u (a1b a2q hr a0x (a0a (pv 0) (a0a (pv 2) a0d))))))) (fun _ _ _ _=>(pv 0))))
   (a0e (d7m (i:=5) rfl (Or.inl rfl) (sc:=a0f a5k) rfl ⟨rfl,by decide +kernel,rfl,by decide +kernel,by decide +kernel,by decide +kernel,by decide +kernel⟩ (by show ("other":Str) ∉ (["self","row","value","staying","crossing","mended"]:List Str); decide +kernel) (by show (".0":Str) ∉ (["self","row","value","staying","crossing","mended"]:List Str); decide +kernel) a6a.nd rfl (a4p (b5s (d2b) (pv 4) (b7k a0p) c4p)) (fun _ _ _ _=>a7j) (fun _ _ _ _=>(a1b b3p hr c2g (a0a (a0z (c8d (K:=K) rfl) (pv 5) a0p (fun _ _=>rfl)) (a0a (pv 0) a0d)))))
   (a0k (b4v (pv 0) (a0w (c5x) (a0w (c5x) (pv 3) (pv 5)) (a5x (a0a (a1w (a0a (pv 2) (a0a (a0z (a0s) (pv 1) (a2j a8j) (fun _ _=>rfl)) (a0a (a0z (a0s) (pv 1) (a2j a8g) (fun _ _=>rfl)) a0d)))) a0d))) rfl))))),?_⟩
 fail "st";fail "go";refine st_cqE ?_;fail "go";refine a2b hx (T_M.cl .sg) (T_M.n_kept .sg) rfl ?_;refine c9q (SqL.of ha) (fun i ys H'=>H' = H/\∃ bs,ys=refs bs/\a6h (Rt K H) bs ((rs.take i).filter fun s=>!a4s s r)) (by rw [a1a]; omega) ⟨rfl,[],rfl,.nil⟩ ?_ ?_ ?_ ?_
 ·rintro i ys H' ⟨_,bs,rfl,e⟩;rw [a1a,e.len];exact Nat.le_trans (List.length_filter_le _ _) (by rw [List.length_take]; omega)
 ·rintro i ys H' ⟨rfl,_⟩;exact SqL.of ha
 ·rintro i x1 ys H' hget ⟨rfl,bs,rfl,e⟩;obtain ⟨b,hb,rfl⟩:=a3y hget;obtain ⟨s1,hs1,hsb⟩:=hA.get hb;fail "go";refine ⟨b,w,s1,r,rfl,SqT.of hsb,SqT.of hw,?_⟩;rw [bes,a1g hs1,List.filter_append];refine ⟨_,rfl,iteB (fun z=>?_) (fun z=>?_)⟩
  ·fail "go";refine ⟨rfl,bs ++ [b],a5a _ _,?_⟩;rw [show [s1].filter (fun s=>!a4s s r) = [s1] from by simp only [List.filter_cons,z]; rfl];exact e.snoc hsb
  ·refine ⟨rfl,bs,rfl,?_⟩;rw [show [s1].filter (fun s=>!a4s s r) = [] from by simp only [List.filter_cons,z]; rfl,List.append_nil];exact e
 ·rintro ys H' ⟨rfl,bs,rfl,eB⟩ p1 hp1;rw [a1a,hA.len,List.take_length] at eB;have S1:a2c H' (upd H' p1 (.lst (refs bs))):=a0b hp1 _;have f1:(upd H' p1 (.lst (refs bs))) p1=some (.lst (refs bs)):=a0c;generalize upd H' p1 (.lst (refs bs)) = G at S1 f1 ⊢;fail "go";refine st_cqE ?_;fail "go";refine a2b (S1 _ _ hx) (T_M.cl .sg) (T_M.n_kept .sg) rfl ?_;refine c9q (SqL.of (S1 _ _ ha)) (fun i ys H2=>H2=G/\∃ ms,ys=refs ms/\a6h (Rt K G) ms ((rs.take i).filter fun s=>a4s s r)) (by rw [a1a]; omega) ⟨rfl,[],rfl,.nil⟩ ?_ ?_ ?_ ?_
  ·rintro i ys H2 ⟨_,ms,rfl,e⟩;rw [a1a,e.len];exact Nat.le_trans (List.length_filter_le _ _) (by rw [List.length_take]; omega)
  ·rintro i ys H2 ⟨rfl,_⟩;exact SqL.of (S1 _ _ ha)
  ·rintro i x1 ys H2 hget ⟨rfl,ms,rfl,e⟩;obtain ⟨b,hb,rfl⟩:=a3y hget;obtain ⟨s1,hs1,hsb⟩:=hA.get hb;fail "go";refine ⟨b,w,s1,r,rfl,SqT.of (S1 _ _ hsb),SqT.of (S1 _ _ hw),?_⟩;rw [bes,a1g hs1,List.filter_append];fail "go";refine iteB (fun z=>?_) (fun z=>?_)
   ·have z1:a4s s1 r=true:=by simpa using z
    fail "go";refine ⟨rfl,ms ++ [b],a5a _ _,?_⟩;rw [show [s1].filter (fun s=>a4s s r) = [s1] from by simp only [List.filter_cons,z1]; rfl];exact e.snoc (S1 _ _ hsb)
   ·have z1:a4s s1 r=false:=by simpa using z
    refine ⟨rfl,ms,rfl,?_⟩;rw [show [s1].filter (fun s=>a4s s r) = [] from by simp only [List.filter_cons,z1]; rfl,List.append_nil];exact e
  ·rintro ys H2 ⟨rfl,ms,rfl,eM⟩ p2 hp2;rw [a1a,hA.len,List.take_length,hcs] at eM
   cases eM with
   | cons hm0 eM2=>
   rename_i m0 ms;have S2:a2c H2 (upd H2 p2 (.lst (refs (m0 :: ms)))):=a0b hp2 _;have f2:(upd H2 p2 (.lst (refs (m0 :: ms)))) p2=some (.lst (refs (m0 :: ms))):=a0c;generalize upd H2 p2 (.lst (refs (m0 :: ms))) = G2 at S2 f2 ⊢;fail "go";refine st_cqE ?_;fail "go";rename_i p3 hp3;rw [show d3s (refs (m0 :: ms)) (some 1) none=refs ms from cut1 _ _];have S3:=S2.trans (a0b hp3 (.lst (refs ms)));have f3:(upd G2 p3 (.lst (refs ms))) p3=some (.lst (refs ms)):=a0c;have f23:=a0b hp3 (.lst (refs ms)) _ _ f2;generalize upd G2 p3 (.lst (refs ms)) = G3 at S3 f3 f23 ⊢
   have mcs:∀ s ∈ c :: cs,s ∈ rs:=fun s hs=>by
    rw [<- hcs,List.mem_filter] at hs;exact hs.1
   have lms:ms.length=cs.length:=eM2.len
   have lcs:cs.length <= n:=by
    have:=List.length_filter_le (fun s=>a4s s r) rs;rw [hcs,List.length_cons,kp.len] at this;omega
   refine c9q (SqL.of f3) (fun i ys H4=>a2c G3 H4/\∃ ts,ys=refs ts/\a6h (Rt K H4) ts ((cs.take i).map (tm c))) (by rw [a1a]; omega) ⟨a2c.refl _,[],rfl,.nil⟩ ?_ ?_ ?_ ?_
   ·rintro i ys H4 ⟨_,ts,rfl,e⟩;rw [a1a,e.len,List.length_map,List.length_take];omega
   ·rintro i ys H4 ⟨s4,_⟩;exact SqL.of (s4 _ _ f3)
   ·rintro i x1 ys H4 hget ⟨s4,ts,rfl,e⟩;obtain ⟨b,hb,rfl⟩:=a3y hget;obtain ⟨s1,hs1,hsb⟩:=eM2.get hb;have S4:=S3.trans s4;refine st_yes ?_;fail "go";refine b6f (SqL.of (s4 _ _ f23)) (b2d (j:=0) (refs_at (as:=m0 :: ms) (i:=0) (a:=m0) rfl)) ?_;fail "go";refine ⟨m0,b,c,s1,rfl,SqT.of (S4 _ _ hm0),SqT.of (S4 _ _ hsb),fun _ p hp=>?_,fun z=>(z ((b3f _ _).1 (kp.com _ (mcs c List.mem_cons_self) _ (mcs s1 (List.mem_cons_of_mem _ (List.mem_of_getElem? hs1)))))).elim⟩;fail "go";refine ⟨s4.trans (a0b hp _),ts ++ [p],a5a _ _,?_⟩;rw [a1g hs1,List.map_append];exact (e.mono fun a d (x:Rt K H4 a d)=>Rt.same (a0b hp _) x).snoc a0c
   ·rintro ys H4 ⟨s4,ts,rfl,eT⟩ p4 hp4;rw [a1a,lms,List.take_length] at eT;have S5:=(S1.trans S3).trans (s4.trans (a0b hp4 (.lst (refs ts))));have f5:(upd H4 p4 (.lst (refs ts))) p4=some (.lst (refs ts)):=a0c;have f15:=(S3.trans (s4.trans (a0b hp4 (.lst (refs ts))))) _ _ f1;have eT5:=eT.mono fun a d (x:Rt K H4 a d)=>Rt.same (a0b hp4 (.lst (refs ts))) x;generalize upd H4 p4 (.lst (refs ts)) = G5 at S5 f5 f15 eT5 ⊢;have hw5:SqT K G5 w [.int (r.m:Nat),.int (r.x:Nat),.int (r.z:Nat)]:=SqT.of (S5 _ _ hw);fail "go";have lbs:bs.length <= n:=by rw [eB.len]; exact Nat.le_trans (List.length_filter_le _ _) (by rw [kp.len]; omega)
    have lts:ts.length <= n:=by rw [eT.len,List.length_map]; exact lcs
    refine st_cat f15 f5 (by rw [a1a,a1a]; omega) fun p6 hp6=>?_;rw [show refs bs ++ refs ts=refs (bs ++ ts) from by unfold refs; rw [List.map_append]]
    have e6:a6h (Rt K (upd G5 p6 (.lst (refs (bs ++ ts))))) (bs ++ ts) (rs.filter (fun s=>!a4s s r) ++ cs.map (tm c)):=
     (eB.mono fun a d (x:Rt K H' a d)=>Rt.same (S5.trans (a0b hp6 _)) x).app (eT5.mono fun a d (x:Rt K G5 a d)=>Rt.same (a0b hp6 _) x)
    have S6:=S5.trans (a0b hp6 (.lst (refs (bs ++ ts))));have f6:(upd G5 p6 (.lst (refs (bs ++ ts)))) p6=some (.lst (refs (bs ++ ts))):=a0c;have hw6:=(a0b hp6 (.lst (refs (bs ++ ts)))).tup hw5;generalize upd G5 p6 (.lst (refs (bs ++ ts))) = G6 at e6 S6 f6 hw6 ⊢;fail "go";rename_i p7 hp7 p8 hp8 p9 hp9;have S8:=(a0b hp7 (.tup [.int (v:Int),.int (r.x:Int),.int (r.z:Int)])).trans (a0b hp8 (.lst [.ref p7]));have f7:=a0b hp8 (.lst [.ref p7]) _ _ (a0c (H:=G6) (a:=p7) (o:=.tup [.int (v:Int),.int (r.x:Int),.int (r.z:Int)]));rw [show refs (bs ++ ts) ++ [V.ref p7] = refs (bs ++ ts ++ [p7]) from a5a _ _];have e9:=((e6.mono fun a d (x:Rt K G6 a d)=>Rt.same S8 x).snoc (a:=p7) (b:=(⟨v,r.x,r.z⟩:Row)) f7);generalize upd (upd G6 p7 (.tup [.int (v:Int),.int (r.x:Int),.int (r.z:Int)])) p8 (.lst [.ref p7]) = G8 at S8 e9 hp9 ⊢;have S9:=(S6.trans S8).trans (a0b hp9 (.lst (refs (bs ++ ts ++ [p7]))));have e10:=e9.mono fun a d (x:Rt K G8 a d)=>Rt.same (a0b hp9 (.lst (refs (bs ++ ts ++ [p7])))) x;have f9:(upd G8 p9 (.lst (refs (bs ++ ts ++ [p7])))) p9=some (.lst (refs (bs ++ ts ++ [p7]))):=a0c;generalize upd G8 p9 (.lst (refs (bs ++ ts ++ [p7]))) = G9 at S9 e10 f9 ⊢;have k1:=S9 _ _ hx;refine a9b k1 (T_M.cl .sg) (T_M.n_kept .sg) (by simp) ?_;have hB:But x G9 (upd G9 x (.ins (a6g .sg) dx [("n",.int (n:Int)),("kept",.ref p9)])):=But.upd;refine q _ (fun c o hc e=>hB _ _ hc (S9 _ _ e)) ⟨dx,p9,_,a0c,hB _ _ (fun z=>by rw [z,k1] at f9; cases f9) f9,rl_of ?_⟩;exact e10.mono fun a d (x:Rt K G9 a d)=>hB _ _ (fun z=>by have x':G9 a=some (.tup d.V):=x; rw [z,k1] at x'; cases x') x
include a1y a5d a3c b5a in theorem d6x (F:Fun K "check_look" "check_look" b8w f fd):a2s P w K mg base (CXE P w) 3 f fd ["row","n"] (c2s K a2f a1z):=by
 refine F.okE d8w (by fail "l2") (fun cdv A outer s H vs Q E hr h=>?_);obtain ⟨v,n,rfl,hn,hb⟩:=h
 refine ⟨_,(a0e (a3f (a1b a5d hr c3z (a0a (pv 0) (a0a (pv 1) a0d))))
   (a0k (a3s (PW.pt (c1q (a1e (a8n) (a0z (a0s) (pv 0) (a2j a1y) (fun _ _=>rfl)) a0p (a1r _)) (b6n (a1e (a8n) (a1b b5a hr a0x (a0a (pv 0) a0d)) a0p (a1r _))))) (a0k (a3x a3c a5r (a0a a1c a0d) rfl)) a1m))),?_⟩
 fail "st";fail "go"
 rcases hb with ⟨a,r,rfl,ha,ok,hm,hz,q⟩ | ⟨C,⟨rfl,ho⟩ | ⟨rfl,a,r,rfl,ha,ok,hz⟩,qE⟩
 ·refine ⟨_,n,rfl,hn,.inl ⟨a,r,rfl,ha,ok,fun H1 S1=>?_⟩⟩;have ha1:=SqT.of (K:=K) (S1 _ _ ha);have ha2:=ha1;unfold Row.V at ha2;fail "go";refine b6p (fun c=>by exfalso; omega) (fun c=>?_);fail "go";refine ⟨a,r,rfl,ha1,?_⟩;fail "go";refine b6p (fun c=>?_) (fun c=>?_)
  ·exact (hz (by
    have:pop (r.x ||| r.z) = 0:=by omega
    have h0:=pop_nil _ this
    exact ⟨by have:=@Nat.left_le_or r.x r.z; omega,by have:=@Nat.right_le_or r.x r.z; omega⟩)).elim
  ·fail "go";exact q _ S1
 ·exact ⟨v,n,rfl,hn,.inr ⟨ho,qE⟩⟩
 ·refine ⟨_,n,rfl,hn,.inl ⟨a,r,rfl,ha,ok,fun H1 S1=>?_⟩⟩;have ha1:=SqT.of (K:=K) (S1 _ _ ha);have ha2:=ha1;unfold Row.V at ha2;fail "go";refine b6p (fun c=>?_) (fun c=>?_)
  ·fail "go";exact ⟨by decide,qE _ S1⟩
  ·fail "go";refine ⟨a,r,rfl,ha1,?_⟩;have hz':r.x=0/\r.z=0:=hz.resolve_left fun z=>c (by omega);rw [hz'.1,hz'.2];fail "go";refine b6p (fun _=>?_) (fun c2=>(c2 (by decide +kernel)).elim);fail "go";exact ⟨by decide,qE _ S1⟩
include T_M a3q a3c a9j b9t a6e b0y in theorem d2w (F:FunD K "look" "Machine.look" a5h f fd .none):a2s P w K mg base (CXE P w) 7 f fd ["self","row","draw"] (b7e K a6g):=by
 refine F.okE b1n (by fail "l4") (fun cdv A outer s H vs Q E hr h=>?_);obtain ⟨x,w,n,r,rfl,hm,hn,hw,ok,hm0,hz,q⟩:=h;have two:=fun (G:Hp) (S:a2c H G)=>SqT.of (K:=K) (S _ _ hw)
 refine ⟨_,(a0e (a3f (a1b a6e hr c3z (a0a (pv 1) (a0a (a2y (pv 0) rfl) a0d))))
   (a0e (a0u (i:=3) b1n.nd rfl (Or.inl rfl) (c6t a9j hr a0x (pv 0) (a0a (pv 1) a0d)))
   (a0e (a3s (a1e (op_notN) (pv 3) c0f (a1r _)) (a0k (a0v (a1w (a0a (pv 3) (a0a pe_bl a0d))))) a1m)
   (a0e (a0u (i:=4) b1n.nd rfl (Or.inl rfl) (a1b b0y hr a0x (a0a (pv 2) a0d)))
   (a0e (a3f (c6t b9t hr a0x (pv 0) (a0a (pv 1) (a0a (pv 4) a0d))))
   (a0k (a0v (a1w (a0a (pv 4) (a0a pe_bl a0d)))))))))),?_⟩
 fail "st";fail "go"
 rcases hm with ⟨a,ws,⟨dx,hx⟩,hW,wn⟩ | ⟨rs,hS,kp⟩
 ·refine a2b hx (T_M.cl .ex) (T_M.n_n .ex) rfl ?_;fail "go";refine ⟨_,n,rfl,by omega,.inl ⟨w,r,rfl,hw,ok,hm0,hz,fun H1 S1=>?_⟩⟩;fail "go";refine a5z (d:=MK.ex) (S1 _ _ hx) rfl ?_;fail "go";refine ⟨x,w,a,n,ws,r,rfl,⟨dx,S1 _ _ hx⟩,hW.stay S1,wn,hn,two _ S1,ok,fun v H2 S2 hv=>?_⟩;have S12:=S1.trans S2
  rcases hv with rfl | ⟨i,rfl⟩
  ·fail "go";refine ⟨rfl,_,rfl,iteB (fun z=>by simp at z) (fun _=>?_)⟩;fail "go";refine ⟨rfl,trivial,?_⟩;fail "go";refine a5z (d:=MK.ex) (S12 _ _ hx) rfl ?_;fail "go";refine ⟨x,w,a,n,0,ws,r,rfl,⟨dx,S12 _ _ hx⟩,hW.stay S12,wn,hn,two _ S12,ok,fun p H3 hB hE hW3=>?_⟩;fail "go";rename_i pt hpt;have S4:=a0b hpt (.tup [V.int 0,V.bl false]);exact q pt _ _ _ (fun c o hc e=>S4 _ _ (hB _ _ hc (S12 _ _ e))) (.inl ⟨p,_,hE.stay S4,hW3.stay S4,Wn.half (r:=⟨r.m ^^^ 0,r.x,r.z⟩) wn ok.x⟩) a0c
  ·fail "go";refine ⟨rfl,_,rfl,iteB (fun _=>?_) (fun z=>by simp at z)⟩;fail "go";rename_i pt hpt;have S4:=S12.trans (a0b hpt (.tup [V.int i,V.bl true]));exact q pt _ _ _ (fun c o hc e=>S4 _ _ e) (.inl ⟨a,ws,⟨dx,S4 _ _ hx⟩,hW.stay S4,wn⟩) a0c
 ·obtain ⟨dx,a,xs,hx,ha,hR⟩:=id hS;refine a2b hx (T_M.cl .sg) (T_M.n_n .sg) rfl ?_;fail "go";refine ⟨_,n,rfl,by omega,.inl ⟨w,r,rfl,hw,ok,hm0,hz,fun H1 S1=>?_⟩⟩;fail "go";refine a5z (d:=MK.sg) (S1 _ _ hx) rfl ?_;fail "go";refine ⟨x,w,n,rs,r,rfl,hS.stay S1,kp,hn,S1 _ _ hw,ok,fun v H2 S2 hv=>?_⟩;have S12:=S1.trans S2
  rcases hv with ⟨rfl,hno⟩ | ⟨i,rfl⟩
  ·have hsp:=lsel_spn kp.ok ok hno
   obtain ⟨c,cs,hcs⟩:∃ c cs,rs.filter (fun s=>a4s s r) = c :: cs:=by
    obtain ⟨u,hu,e⟩:=kp.full ok hsp;have hm:u ∈ rs.filter (fun s=>a4s s r):=List.mem_filter.2 ⟨hu,e⟩
    cases hf:rs.filter (fun s=>a4s s r) with
    | nil=>rw [hf] at hm; cases hm
    | cons c cs=>exact ⟨c,cs,rfl⟩
   fail "go";refine ⟨rfl,_,rfl,iteB (fun z=>by simp at z) (fun _=>?_)⟩;fail "go";refine ⟨rfl,trivial,?_⟩;fail "go";refine a5z (d:=MK.sg) (S12 _ _ hx) rfl ?_;fail "go";refine ⟨x,w,n,0,rs,r,c,cs,rfl,hS.stay S12,kp,hn,S12 _ _ hw,ok,hcs,fun H3 hB hE=>?_⟩;fail "go";rename_i pt hpt;have S4:=a0b hpt (.tup [V.int 0,V.bl false]);exact q pt _ _ _ (fun c o hc e=>S4 _ _ (hB _ _ hc (S12 _ _ e))) (.inr ⟨_,hE.stay S4,kp.settle ok hsp hcs (Nat.zero_le 1)⟩) a0c
  ·fail "go";refine ⟨rfl,_,rfl,iteB (fun _=>?_) (fun z=>by simp at z)⟩;fail "go";rename_i pt hpt;have S4:=S12.trans (a0b hpt (.tup [V.int i,V.bl true]));exact q pt _ _ _ (fun c o hc e=>S4 _ _ e) (.inr ⟨rs,hS.stay S4,kp⟩) a0c
include a0t a6t a8v in theorem ok_is_look (F:Fun K "is_look" "is_look" d0g f fd):a2s P w K mg base CX0 1 f fd ["step"] (d5x K):=by
 refine F.ok sc_is_look (by fail "l1") (fun cdv A outer s H vs Q E hr h=>?_);obtain ⟨v,rfl,hq⟩:=h;refine ⟨_,(a0k (a0v (d4q (c2b rfl a0t (pv 0) a8v b9d) (d4q (b7s (a8n) (a2g (a4k) rfl a6t PySem.boot_len (a0a (pv 0) a0d)) a0p (a1r _)) (pe_one (b7s (a8n) (a0z (a0s) (pv 0) a0p (fun _ _=>rfl)) a1c (a1r _))))))),?_⟩;fail "go"
 rcases hq with ⟨a,y,z,rfl,ha,q⟩ | ⟨nl,q⟩
 ·refine a6n (a8a.tup ha) a1u ?_;have ha':SqT K H a [.str "look",y,z]:=SqT.of ha;fail "go";refine b6p (fun _=>?_) (fun c=>(c rfl).elim);fail "go";rw [show decide (("look":Str) = "look") = true from decide_eq_true rfl];exact q
 ·cases nl with
  | kind ty kt=>
   refine a6n ty kt ?_;fail "go";exact q
  | len ha hl hm=>
   refine a6n (a8a.tup ha) a1u ?_;have ha':=SqT.of (K:=K) ha;fail "go";refine b6p (fun c=>(hl (by omega)).elim) (fun c=>?_);exact q
  | word ha ne=>
   refine a6n (a8a.tup ha) a1u ?_;have ha':=SqT.of (K:=K) ha;fail "go";refine b6p (fun _=>?_) (fun c=>(c rfl).elim);fail "go";rw [decide_eq_false ne];exact q
theorem ok_look_row (F:Fun K "look_row" "look_row" c4x f fd):a2s P w K mg base CX0 1 f fd ["look"] (d2n K):=by
 refine F.ok sc_look_row (by fail "l3") (fun cdv A outer s H vs Q E hr h=>?_);obtain ⟨a,y,z,rfl,ha,q⟩:=h;refine ⟨_,(a0k (a0v (a1w (a0a a0p (a0a (a0z (a0s) (pv 0) a0p (fun _ _=>rfl)) (a0a (a0z (a0s) (pv 0) a0p (fun _ _=>rfl)) a0d)))))),?_⟩;have ha':=SqT.of (K:=K) ha;fail "go";rename_i p hp;exact q p hp
include a3a a3d b1h a3q a3c a6e b2g a8p in theorem d6a (F:Fun K "check_step" "check_step" b7x f fd):a2s P w K mg base (CXE P w) 6 f fd ["step","n"] (c3v K a1n a1v a2f a1z):=by
 refine F.okE d8u (by fail "l2") (fun cdv A outer s H vs Q E hr h=>?_);obtain ⟨v,n,rfl,hn,hq⟩:=h;refine ⟨_,(a0k (a3s (a5u (a1b b2g hr a0x (a0a (pv 0) a0d))) (a0k (a3f (a1b a6e hr c3z (a0a (a1b a8p hr a0x (a0a (pv 0) a0d)) (a0a (pv 1) a0d))))) (a0k (a3f (a1b b1h hr c3z (a0a (pv 0) (a0a (pv 1) a0d))))))),?_⟩;fail "go"
 rcases hq with ⟨a,s1,rfl,ha,ok,q⟩ | ⟨due,hb,qE⟩
 ·cases s1 with
  | dd d=>
   refine ⟨_,rfl,.inr ⟨NoLk.dd ha ok,?_⟩⟩;fail "go";have ok:d.Ok n:=ok;have wd:WdAt H a d.k (d.w.map fun x:Nat=>(x:Int)):=⟨by rw [<- d6k]; exact ha,by rw [List.length_map]; exact ok.len,d1y ok.nd⟩;refine ⟨_,n,rfl,.inr ⟨a,d.k,_,rfl,wd,fun _ pd d3 H3 hS3 _ _ _=>q _ hS3,fun z=>(z fun i hi=>?_).elim⟩⟩;obtain ⟨x,hx,rfl⟩:=List.mem_map.mp hi;have:=ok.lt x hx;omega
  | lk x z=>
   refine ⟨_,rfl,.inl ⟨a,_,_,rfl,ha,?_⟩⟩;fail "go";refine ⟨a,_,_,rfl,ha,fun p hp=>?_⟩;fail "go";refine ⟨_,n,rfl,by omega,.inl ⟨p,⟨0,x,z⟩,rfl,a0c,⟨Nat.zero_le 1,ok.1,ok.2.1⟩,rfl,ok.2.2,fun H2 S2=>?_⟩⟩;fail "go";exact q _ ((a0b hp _).trans S2)
 ·cases hb with
  | deed h nl=>
   refine ⟨_,rfl,.inr ⟨nl,?_⟩⟩;fail "go";exact ⟨_,n,rfl,.inl ⟨h,fun H' S=>qE _ _ S (.inl ⟨rfl,.inl rfl⟩)⟩⟩
  | wire h nl nr=>
   refine ⟨_,rfl,.inr ⟨nl,?_⟩⟩;fail "go";exact ⟨_,n,rfl,.inr ⟨_,_,_,rfl,h,fun z=>(nr z).elim,fun _ H' S=>qE _ _ S (.inl ⟨rfl,.inr rfl⟩)⟩⟩
  | part h hy hz nb=>
   refine ⟨_,rfl,.inl ⟨_,_,_,rfl,h,?_⟩⟩;fail "go";refine ⟨_,_,_,rfl,h,fun p hp=>?_⟩;fail "go";refine ⟨_,n,rfl,by omega,.inr ⟨_,.inl ⟨rfl,Odd.part a0c (WN.int _ _ 0) (WN.stay hy (a0b hp _)) (WN.stay hz (a0b hp _)) nb⟩,fun H2 S2=>qE _ _ ((a0b hp _).trans S2) (.inr (.inl ⟨rfl,rfl⟩))⟩⟩
  | nums h nb=>
   refine ⟨_,rfl,.inl ⟨_,_,_,rfl,h,?_⟩⟩;fail "go";refine ⟨_,_,_,rfl,h,fun p hp=>?_⟩;fail "go";refine ⟨_,n,rfl,by omega,.inr ⟨_,.inl ⟨rfl,Odd.nums a0c fun z=>nb z.2⟩,fun H2 S2=>qE _ _ ((a0b hp _).trans S2) (.inr (.inl ⟨rfl,rfl⟩))⟩⟩
  | zero h=>
   refine ⟨_,rfl,.inl ⟨_,_,_,rfl,h,?_⟩⟩;fail "go";refine ⟨_,_,_,rfl,h,fun p hp=>?_⟩;fail "go";have two:0 < 2 ^ n:=Nat.two_pow_pos n;refine ⟨_,n,rfl,by omega,.inr ⟨_,.inr ⟨rfl,p,⟨0,0,0⟩,rfl,a0c,⟨Nat.zero_le 1,two,two⟩,.inr ⟨rfl,rfl⟩⟩,fun H2 S2=>qE _ _ ((a0b hp _).trans S2) (.inr (.inr ⟨rfl,rfl⟩))⟩⟩
include a6u a3a a3d a3q b2k a3c b2g a8p d1w c9b b3h in theorem ok_run_work (F:FunD K "run_work" "run_work" b1f f fd .none):a2s P w K mg base (CXE P w) 8 f fd ["machine","work","draw"] (b5t K a6g a0h a0g a0j a0m a1n a1v a2f a1z):=by
 refine F.okE b2r (by fail "l4") (fun cdv A outer s H vs Q E hr h=>?_);obtain ⟨x,l,dv,n,rfl,hM,h0,hn,hq⟩:=h
 refine ⟨_,(a0e (a0u (i:=3) b2r.nd rfl (Or.inl rfl) (a6x (b1e) rfl a6u a9r (a0a (pv 1) a0d)))
   (a0e (b4k PassesOwn.leaving rfl (a4p (pv 3)) (a2r (i:=4) b2r.nd rfl (Or.inl rfl)) (a0k (a3f (a1b b3h hr c3z (a0a (pv 4) (a0a (d5a b2k hr a0x (pv 0)) a0d))))))
   (a0e (a0u (i:=5) b2r.nd rfl (Or.inl rfl) (a5x a0d))
   (a0e (b4k PassesOwn.leaving rfl (a4p (pv 3)) (a2r (i:=4) b2r.nd rfl (Or.inl rfl)) (a0k (a3s (a5u (a1b b2g hr a0x (a0a (pv 4) a0d))) (a0k (a3f (pe_bm PySem.F.plainAttrs_list PySem.F.slot_list_append PySem.F.type_list_append mt_append (pv 5) (a0a (c6t c9b hr c3z (pv 0) (a0a (a1b a8p hr a0x (a0a (pv 4) a0d)) (a0a (pv 2) a0d))) a0d)))) (a0k (a3f (c6t d1w hr c3z (pv 0) (a0a (pv 4) a0d)))))))
   (a0k (a0v (pv 5))))))),?_⟩
 fail "st";fail "go"
 rcases hq with ⟨us,i,v,due,hl,hus,hgood,hi,hb,qE⟩ | ⟨as,ss,rfl,hl,has,hA,hok,hT,q⟩
 ·refine ⟨l,us,rfl,.inl hl,fun p0 hp0=>?_⟩;have S0:=a0b hp0 (.lst us);have f0:(upd H p0 (.lst us)) p0=some (.lst us):=a0c;generalize upd H p0 (.lst us) = G at S0 f0 ⊢;fail "go";refine b1x (fun P h=>⟨_,rfl,h⟩) (SqL.of f0) (fun j σ H'=>j <= i/\∃ u,σ=[some (.ref x),some (.ref l),some dv,some (.ref p0),u,none]/\a2c G H') ⟨Nat.zero_le _,none,rfl,a2c.refl _⟩ ?_ ?_ ?_
  ·rintro j σ H' _ ⟨_,u,_,s1⟩;exact SqL.of (s1 _ _ f0)
  ·rintro j y σ H' hy ⟨hj,u,rfl,s1⟩;have S1:=S0.trans s1;fail "go";refine mth_Mn (hM.mn.stay S1) (fun _=>⟨rfl,rfl⟩) fun d=>?_;fail "go";refine ⟨x,n,rfl,(hM.mn.stay S1).wires,?_⟩;fail "go"
   by_cases hji:j < i
   ·obtain ⟨a,s2,rfl,ha,ok⟩:=hgood j y hji hy;refine ⟨_,n,rfl,hn,.inl ⟨a,s2,rfl,S1 _ _ ha,ok,fun H2 S2=>?_⟩⟩;fail "go";exact ⟨by omega,_,rfl,s1.trans S2⟩
   ·obtain rfl:j=i:=by omega
    rw [hi] at hy;cases hy;exact ⟨_,n,rfl,hn,.inr ⟨due,hb.stay S1,fun C H2 S2 w=>qE C H2 (S1.trans S2) w⟩⟩
  ·rintro σ H' ⟨hlen,_⟩;have:=(List.getElem?_eq_some_iff.mp hi).1;omega
 ·refine ⟨l,refs as,rfl,.inl hl,fun p0 hp0=>?_⟩;have S0:=a0b hp0 (.lst (refs as));have f0:(upd H p0 (.lst (refs as))) p0=some (.lst (refs as)):=a0c;generalize upd H p0 (.lst (refs as)) = G at S0 f0 ⊢;fail "go";refine b1x (fun P h=>⟨_,rfl,h⟩) (SqL.of f0) (fun j σ H'=>∃ u,σ=[some (.ref x),some (.ref l),some .non,some (.ref p0),u,none]/\a2c G H') ⟨none,rfl,a2c.refl _⟩ ?_ ?_ ?_
  ·rintro j σ H' _ ⟨u,_,s1⟩;exact SqL.of (s1 _ _ f0)
  ·rintro j y σ H' hy ⟨u,rfl,s1⟩;have S1:=S0.trans s1;obtain ⟨a,ha,rfl⟩:=a3y hy;obtain ⟨s2,hs2,hst⟩:=hA.get ha;fail "go";refine mth_Mn (hM.mn.stay S1) (fun _=>⟨rfl,rfl⟩) fun d=>?_;fail "go";refine ⟨x,n,rfl,(hM.mn.stay S1).wires,?_⟩;fail "go";refine ⟨_,n,rfl,hn,.inl ⟨a,s2,rfl,S1 _ _ hst,hok s2 (List.mem_of_getElem? hs2),fun H2 S2=>?_⟩⟩;fail "go";exact ⟨_,rfl,s1.trans S2⟩
  rintro σ H1 ⟨u,rfl,s1⟩;fail "go";rename_i pt hpt;have npt:H pt=none:=none_of (S0.trans s1) hpt;have ne0:p0 ≠ pt:=a0n (s1 _ _ f0) hpt;have S2:=(S0.trans s1).trans (a0b hpt (.lst []));have f2:=((s1.trans (a0b hpt (.lst []))) _ _ f0);have g2:(upd H1 pt (.lst [])) pt=some (.lst (refs [])):=a0c;generalize upd H1 pt (.lst []) = G2 at S2 f2 g2 ⊢
  have nx:∀ (a:Addr) (ys:List V),H a=some (.tup ys)->a ≠ x:=fun a ys e z=>by
   obtain ⟨k,dx,fs,e2⟩:=hM.mn.wires;rw [z,e2] at e;cases e
  refine b1x (fun P h=>⟨_,rfl,h⟩) (SqL.of f2) (fun j σ H'=>∃ (u:Option V) (ts:List Addr),σ=[some (.ref x),some (.ref l),some .non,some (.ref p0),u,some (.ref pt)]/\d5p x H H'/\d1j a0h a0g a0j a0m H'/\Mg K a6g H' x n/\H' p0=some (.lst (refs as))/\H' pt=some (.lst (refs ts))/\ts.length=((ss.take j).filter Sp1.isl).length/\∀ t ∈ ts,∃ u v,H' t=some (.tup [u,v])) ⟨_,[],rfl,fun c o _ e _=>S2 _ _ e,hT.to S2,hM.stay S2,f2,g2,rfl,fun _ z=>nomatch z⟩ ?_ ?_ ?_
  ·rintro j σ H' _ ⟨u,ts,_,_,_,_,f,_⟩;exact SqL.of f
  ·rintro j y σ H' hy ⟨u,ts,rfl,hB,hT',hM',f,g,hlen,hts⟩;obtain ⟨a,ha,rfl⟩:=a3y hy;obtain ⟨s2,hs2,hst⟩:=hA.get ha;have hst':H' a=some (.tup s2.V):=hB _ _ (nx _ _ hst) hst (fun _ z=>nomatch z);have ok2:=hok s2 (List.mem_of_getElem? hs2);rw [a1g hs2,List.filter_append];fail "go"
   cases s2 with
   | dd d=>
    refine ⟨_,rfl,.inr ⟨NoLk.dd hst' ok2,?_⟩⟩;fail "go";have ok2:d.Ok n:=ok2;have tb:∀ {ys:List V} (ps:_),HO.lst ys=HO.tbl ps->False:=fun _ z=>nomatch z
    rcases hM' with ⟨a1,ws,hE,hW,wn⟩ | ⟨rs,hS,kp⟩
    ·obtain ⟨dx,hx⟩:=id hE;have wl:=wn.len hn;refine a5z (d:=MK.ex) hx rfl ?_;fail "go";refine ⟨x,.ref a,n,rfl,hn,.inl ⟨a,d,rfl,hst',ok2,.inl ⟨a1,ws,hE,hW,wn.nd,by omega,hT',fun p H4 hB4 hT4 hp4 hE4 hW4=>?_⟩⟩⟩;fail "go";refine ⟨_,ts,rfl,fun c o hc e nt=>hB4 _ _ hc (hB _ _ hc e nt) nt,hT4,.inl ⟨p,_,hE4,hW4,wn.deed ok2⟩,hB4 _ _ (fun z=>by rw [z,hx] at f; cases f) f (fun _ z=>nomatch z),hB4 _ _ (fun z=>by rw [z,hx] at g; cases g) g (fun _ z=>nomatch z),?_,fun t ht=>?_⟩
     ·rw [List.length_append,<- hlen]; rfl
     ·obtain ⟨u1,v1,e⟩:=hts t ht;exact ⟨u1,v1,hB4 _ _ (fun z=>by rw [z,hx] at e; cases e) e (fun _ z=>nomatch z)⟩
    ·obtain ⟨dx,a2,xs2,hx,ha2,hR2⟩:=id hS;refine a5z (d:=MK.sg) hx rfl ?_;fail "go";refine ⟨x,.ref a,n,rfl,hn,.inl ⟨a,d,rfl,hst',ok2,.inr ⟨rs,hS,by rw [kp.len]; omega,fun H4 hB4 hS4=>?_⟩⟩⟩;fail "go";refine ⟨_,ts,rfl,fun c o hc e nt=>hB4 _ _ hc (hB _ _ hc e nt),c3y hT' hB4 hx,.inr ⟨_,hS4,kp.act ok2⟩,hB4 _ _ (fun z=>by rw [z,hx] at f; cases f) f,hB4 _ _ (fun z=>by rw [z,hx] at g; cases g) g,?_,fun t ht=>?_⟩
     ·rw [List.length_append,<- hlen]; rfl
     ·obtain ⟨u1,v1,e⟩:=hts t ht;exact ⟨u1,v1,hB4 _ _ (fun z=>by rw [z,hx] at e; cases e) e⟩
   | lk xx zz=>
    refine ⟨_,rfl,.inl ⟨a,_,_,rfl,hst',?_⟩⟩;fail "go";have ok3:xx < 2 ^ n/\zz < 2 ^ n/\¬ (xx=0/\zz=0):=ok2;refine mth_Mn hM'.mn (fun _=>⟨rfl,rfl⟩) fun d=>?_;fail "go";refine ⟨a,_,_,rfl,hst',fun p hp=>?_⟩;fail "go";have S3:=a0b hp (.tup [.int 0,.int (xx:Int),.int (zz:Int)]);have f3:(upd H' p (.tup [.int 0,.int (xx:Int),.int (zz:Int)])) p=some (.tup (⟨0,xx,zz⟩:Row).V):=a0c;generalize upd H' p (.tup [.int 0,.int (xx:Int),.int (zz:Int)]) = H3 at S3 f3 ⊢;obtain ⟨k,dx,fs,hx⟩:=(hM'.stay S3).mn.wires;refine ⟨x,p,n,⟨0,xx,zz⟩,rfl,hM'.stay S3,hn,f3,⟨Nat.zero_le 1,ok3.1,ok3.2.1⟩,rfl,ok3.2.2,fun pq u1 v1 H4 hB4 hM4 hq4=>?_⟩;have f4:=S3 _ _ f;have f4:=hB4 _ _ (fun z=>by rw [z,hx] at f4; cases f4) f4;have g4:=S3 _ _ g;have g4:=hB4 _ _ (fun z=>by rw [z,hx] at g4; cases g4) g4
    have hts4:∀ t ∈ ts,∃ u v,H4 t=some (.tup [u,v]):=fun t ht=>by
     obtain ⟨u2,v2,e⟩:=hts t ht;have e:=S3 _ _ e;exact ⟨u2,v2,hB4 _ _ (fun z=>by rw [z,hx] at e; cases e) e⟩
    have lts:ts.length <= 100:=by
     rw [hlen];refine Nat.le_trans (List.length_filter_le _ _) ?_;rw [List.length_take,<- hA.len];omega
    fail "go";refine ⟨_,ts ++ [pq],rfl,fun c o hc e nt=>?_,tabsL_but (c3y (hT'.to S3) hB4 hx) But.upd g4,hM4.app h0 g4 hts4,by rw [a0q ne0]; exact f4,by rw [a0c,a5a],?_,fun t ht=>?_⟩
    ·rw [a0q (a0n e npt)];exact hB4 _ _ hc (S3 _ _ (hB _ _ hc e nt))
    ·rw [List.length_append,List.length_append,<- hlen]; rfl
    ·have key:∀ (t:Addr) (ys:List V),H4 t=some (.tup ys)->(upd H4 pt (.lst (refs ts ++ [.ref pq]))) t=some (.tup ys):=fun t ys e=>by
      rw [a0q fun z=>by rw [z,g4] at e; cases e];exact e
     rcases List.mem_append.1 ht with ht | ht
     ·obtain ⟨u2,v2,e⟩:=hts4 t ht;exact ⟨u2,v2,key _ _ e⟩
     ·rw [List.mem_singleton.1 ht];exact ⟨u1,v1,key _ _ hq4⟩
  ·rintro σ H' ⟨u,ts,rfl,hB,hT',hM',f,g,hlen,hts⟩;fail "go";rw [a1a,hA.len,List.take_length] at hlen;exact q pt ts H' hB hT' hM' npt g hlen hts
include a1d b3g b2y in theorem ok__law_one (F:Fun K "_law_one" "_law_one" c5k f fd):a2s P w K mg base CX0 4 f fd ["_law_draw","_law_n"] (d1h K):=by
 refine F.ok c1r (by fail "l2") (fun cdv A outer s H vs Q E hr h=>?_);obtain ⟨c,n,rfl,h0,hn,q⟩:=h
 refine ⟨_,(a0e (a3s (a1e (a8n) (a0w (a6r) (a1b a1d hr a0x (a0a (pv 0) (a0a a0p a0d))) a0p) a0p (a1r _)) (a0e (ps_asg (a1b b2y hr a0x (a0a (pv 0) (a0a (pv 1) a0d))) (c0h rfl (a2x (a2r (i:=2) c1r.nd rfl (Or.inl rfl)) (a2x (a2r (i:=3) c1r.nd rfl (Or.inl rfl)) b4d))))
   (a0k (a0v (a1w (a0a a1c (a0a (pv 2) (a0a (pv 3) a0d))))))) a1m)
   (a0k (a0v (a1b b3g hr a0x (a0a (pv 0) (a0a (pv 1) a0d)))))),?_⟩
 fail "st";fail "go";refine ⟨c,40,rfl,by decide,fun m hm=>?_⟩;fail "go";refine b6p (fun _=>?_) (fun _=>?_)
 ·fail "go";refine ⟨c,n,rfl,h0,by omega,fun p H1 xs zs hS1 hp hxz=>?_⟩;have hp':=SqT.of (K:=K) hp;fail "go";rename_i p2 hp2;exact q p2 _ (.lk xs zs) (hS1.trans (a0b hp2 _)) a0c ⟨hxz.1,hxz.2.1,fun z=>hxz.2.2.elim (fun e=>e z.1) (fun e=>e z.2)⟩
 ·fail "go";refine ⟨c,n,rfl,h0,by omega,fun pw Hw dd hSw hw ok=>?_⟩;fail "go";exact q pw Hw (.dd dd) hSw hw ok
include a6t a1d in theorem ok__law_bad (F:Fun K "_law_bad" "_law_bad" c5e f fd):a2s P w K mg base CX0 2 f fd ["_law_draw","_law_n"] (c9w K):=by
 refine F.ok b1z (by fail "l2") (fun cdv A outer s H vs Q E hr h=>?_);obtain ⟨c,n,rfl,h0,hn,q⟩:=h
 refine ⟨_,(a0e (a0u (i:=2) b1z.nd rfl (Or.inl rfl) (a0w (a6r) (a1b a1d hr a0x (a0a (pv 0) (a0a a0p a0d))) (pv 1)))
   (a0e (a0u (i:=3) b1z.nd rfl (Or.inl rfl) (a5x (a0a (a1w (a0a (a1w (a0a a1c (a0a (pv 2) a0d))) (a0a a1c a0d))) (a0a (a1w (a0a (a1w (a0a a1c (a0a (pv 1) a0d))) (a0a a1c a0d))) (a0a (a1w (a0a (a1w (a0a a1c (a0a (pv 2) (a0a (pv 2) a0d)))) (a0a a1c a0d))) (a0a (a1w (a0a (a1w (a0a a1c (a0a (a0w (a8k) a0p (pv 1)) (a0a a0p a0d)))) (a0a a1c a0d))) a0d))))))
   (a0e (a0u (i:=3) b1z.nd rfl (Or.inl rfl) (a0w (c5x) (pv 3) (a5x (a0a (a1w (a0a (a1w (a0a a1c (a0a a0p (a0a a0p a0d)))) (a0a a1c a0d))) (a0a (a1w (a0a (a1w (a0a a1c (a0a a0p a0d))) (a0a a1c a0d))) (a0a (a1w (a0a (a5x (a0a a1c (a0a (pv 2) a0d))) (a0a a1c a0d))) (a0a (a1w (a0a (a1w (a0a a1c (a0a (pe_un d2z a0p) (a0a a0p a0d)))) (a0a a1c a0d))) a0d)))))))
   (a0e (a0u (i:=3) b1z.nd rfl (Or.inl rfl) (a0w (c5x) (pv 3) (a5x (a0a (a1w (a0a c0f (a0a a1c a0d))) (a0a (a1w (a0a (a1w (a0a a1c (a0a (pe_un d2z a0p) a0d))) (a0a a1c a0d))) (a0a (a1w (a0a (a1w (a0a a1c (a0a c0f (a0a a0p a0d)))) (a0a a1c a0d))) (a0a (a1w (a0a (a1w (a0a a1c (a0a (pv 2) (a0a (a0w (a7p) (pv 1) a0p) a0d)))) (a0a a1c a0d))) a0d)))))))
   (a0k (a0v (a0z (b8h) (pv 3) (a0w (a6r) (a1b a1d hr a0x (a0a (pv 0) (a0a a0p a0d))) (a2g (a4k) rfl a6t PySem.boot_len (a0a (pv 3) a0d))) (fun _ _=>rfl)))))))),?_⟩
 fail "st";fail "go";refine ⟨c,2,rfl,by decide,fun m hm=>?_⟩;fail "go";rename_i k ek hk p1 g1 p2 g2 p3 g3 p4 g4 p5 g5 p6 g6 p7 g7 p8 g8 p9 g9 p10 g10 p11 g11 p12 g12 p13 g13 p14 g14 p15 g15 p16 g16 p17 g17 p18 g18 p19 g19 p20 g20 p21 g21 p22 g22 p23 g23 p24 g24 p25 g25 p26 g26 p27 g27 p28 g28;refine ⟨c,50,rfl,by decide,fun m2 hm2=>?_⟩;fail "go";refine st_modG (L:=12) (fun G=>a2c H G/\SqL K G p28 [V.ref p2,V.ref p4,V.ref p6,V.ref p8,V.ref p11,V.ref p13,V.ref p15,V.ref p17,V.ref p20,V.ref p22,V.ref p24,V.ref p26]/\∀ v ∈ [V.ref p2,V.ref p4,V.ref p6,V.ref p8,V.ref p11,V.ref p13,V.ref p15,V.ref p17,V.ref p20,V.ref p22,V.ref p24,V.ref p26],∃ w p due d,v=V.ref p/\G p=some (.tup [w,.str due])/\(∀ G',b9w G G'->d8f K G' n w due)/\It G w d) rfl (by decide) ?_ ?_
 ·refine ⟨?_,SqL.of a0c,?_⟩
  ·fail "sm"
  ·intro v hv;simp only [List.mem_cons,List.not_mem_nil,or_false] at hv
   rcases hv with rfl | rfl | rfl | rfl | rfl | rfl | rfl | rfl | rfl | rfl | rfl | rfl
   ·refine ⟨.ref p1,p2,"deed",_,rfl,?_,fun G' hs=>.deed (NoW.word (s:="turn") (xs:=[.int k]) (hs.1 _ _ ?_) (by decide +kernel) (a5f _) rfl (by show (1:Nat) <= 900; decide)) (.len (xs:=[.str "turn",.int k]) (hs.1 _ _ ?_) (by show (2:Nat) ≠ 3; decide) (by show (2:Nat) <= 1000; decide)),.tup (xs:=[.str "turn",.int k]) ?_ (by first | rfl | (simp [okV,a5f]))⟩ <;> fail "la"
   ·refine ⟨.ref p3,p4,"deed",_,rfl,?_,fun G' hs=>.wire (k:=.over) (is:=[(n:Int)]) (WdAt.mk1 (w:="over") (hs.1 _ _ ?_) rfl rfl) (.len (xs:=[.str "over",.int n]) (hs.1 _ _ ?_) (by show (2:Nat) ≠ 3; decide) (by show (2:Nat) <= 1000; decide)) (fun z=>by have:=z n (by simp); omega),.tup (xs:=[.str "over",.int n]) ?_ (by first | rfl | (simp [okV,a5f]))⟩ <;> fail "la"
   ·refine ⟨.ref p5,p6,"deed",_,rfl,?_,fun G' hs=>.deed (NoW.sameW (w:="where") (k:=.wher) (i:=(k:Int)) (hs.1 _ _ ?_) rfl rfl) (.word (s:="where") (y:=.int k) (z:=.int k) (hs.1 _ _ ?_) (by decide +kernel)),.tup (xs:=[.str "where",.int k,.int k]) ?_ (by first | rfl | (simp [okV,a5f]))⟩ <;> fail "la"
   ·refine ⟨.ref p7,p8,"row",_,rfl,?_,fun G' hs=>.nums (x:=((2 ^ n:Nat):Int)) (z:=0) (hs.1 _ _ ?_) (by omega),.tup (xs:=[.str "look",.int ((2 ^ n:Nat):Int),.int 0]) ?_ (by first | rfl | (simp [okV,a5f]))⟩ <;> fail "la"
   ·refine ⟨.ref p10,p11,"look",_,rfl,?_,fun G' hs=>.zero (hs.1 _ _ ?_),.tup (xs:=[.str "look",.int 0,.int 0]) ?_ (by first | rfl | (simp [okV,a5f]))⟩ <;> fail "la"
   ·refine ⟨.ref p12,p13,"deed",_,rfl,?_,fun G' hs=>.deed (NoW.word (s:="look") (xs:=[.int 1]) (hs.1 _ _ ?_) (by decide +kernel) (a5f _) rfl (by show (1:Nat) <= 900; decide)) (.len (xs:=[.str "look",.int 1]) (hs.1 _ _ ?_) (by show (2:Nat) ≠ 3; decide) (by show (2:Nat) <= 1000; decide)),.tup (xs:=[.str "look",.int 1]) ?_ (by first | rfl | (simp [okV,a5f]))⟩ <;> fail "la"
   ·refine ⟨.ref p14,p15,"deed",_,rfl,?_,fun G' hs=>.deed (NoW.kind (a8a.lst (xs:=[.str "over",.int k]) (hs.2 _ _ ?_)) b3z) (.kind (a8a.lst (xs:=[.str "over",.int k]) (hs.2 _ _ ?_)) b3z),.lst (xs:=[.str "over",.int k]) ?_ (by first | rfl | (simp [okV,a5f]))⟩ <;> fail "la"
   ·refine ⟨.ref p16,p17,"row",_,rfl,?_,fun G' hs=>.nums (x:=-1) (z:=1) (hs.1 _ _ ?_) (by omega),.tup (xs:=[.str "look",.int (-1),.int 1]) ?_ (by first | rfl | (simp [okV,a5f]))⟩ <;> fail "la"
   ·refine ⟨.non,p20,"deed",_,rfl,?_,fun G' hs=>.deed (NoW.kind a8a.non a7y) (.kind a8a.non a7y),.non⟩ <;> fail "la"
   ·refine ⟨.ref p21,p22,"deed",_,rfl,?_,fun G' hs=>.wire (k:=.back) (is:=[(-1:Int)]) (WdAt.mk1 (w:="back") (hs.1 _ _ ?_) rfl rfl) (.len (xs:=[.str "back",.int (-1)]) (hs.1 _ _ ?_) (by show (2:Nat) ≠ 3; decide) (by show (2:Nat) <= 1000; decide)) (fun z=>by have:=z (-1) (by simp); omega),.tup (xs:=[.str "back",.int (-1)]) ?_ (by first | rfl | (simp [okV,a5f]))⟩ <;> fail "la"
   ·refine ⟨.ref p23,p24,"row",_,rfl,?_,fun G' hs=>.part (y:=.non) (z:=.int 1) (hs.1 _ _ ?_) (WN.non _ _) (WN.int _ _ 1) rfl,.tup (xs:=[.str "look",.non,.int 1]) ?_ (by first | rfl | (simp [okV,a5f]))⟩ <;> fail "la"
   ·refine ⟨.ref p25,p26,"deed",_,rfl,?_,fun G' hs=>.wire (k:=.swap) (is:=[(k:Int),(n:Int) + 3]) (WdAt.mk2 (w:="swap") (hs.1 _ _ ?_) rfl rfl (by omega)) (.word (s:="swap") (y:=.int k) (z:=.int ((n:Int) + 3)) (hs.1 _ _ ?_) (by decide +kernel)) (fun z=>by have:=z ((n:Int) + 3) (by simp); omega),.tup (xs:=[.str "swap",.int k,.int ((n:Int) + 3)]) ?_ (by first | rfl | (simp [okV,a5f]))⟩ <;> fail "la"
 ·clear g28 g27 g26 g25 g24 g23 g22 g21 g20 g19 g18 g17 g16 g15 g14 g13 g12 g11 g10 g9 g8 g7 g6 g5 g4 g3 g2 g1;rintro G j ⟨SG,sl,hall⟩ hj;fail "go";refine st_ixOdd (R:=fun v G=>∃ w p due d,v=V.ref p/\G p=some (.tup [w,.str due])/\(∀ G',b9w G G'->d8f K G' n w due)/\It G w d) sl hj hall fun v hv=>?_;obtain ⟨w,p,due,d,rfl,e1,e2,e3⟩:=hv;exact q w p due d G SG e1 e2 e3
include a0t T_M d7e c3c c8g b2k c3r in theorem ok__law_now (F:Fun K "_law_now" "_law_now" c4j f fd):a2s P w K mg base CX0 8 f fd ["_law_machine"] (d2c K a6g):=by
 refine F.ok sc__law_now (by fail "l3") (fun cdv A outer s H vs Q E hr h=>?_);obtain ⟨x,n,D,rfl,hn,hN,q⟩:=h
 refine ⟨_,(a0e (a3s (a5u (pe_isD rfl a0t (pv 0) d7e)) (a0k (a0v (d5a c3c hr a0x (pv 0)))) a1m)
   (a0k (a0v (a1b c3r hr c2g (a0a (d5a c8g hr a0x (pv 0)) (a0a (d5a b2k hr a0x (pv 0)) a0d)))))),?_⟩
 fail "st";fail "go"
 cases D with
 | wh ws=>
  obtain ⟨a,hE,hW,wn⟩:=hN;obtain ⟨dx,hx⟩:=id hE;fail "go";refine a6n ((T_M.ty _).ty (T_M.cl _) hx) (T_M.kt _ _) ⟨_,rfl,iteB (fun _=>?_) (fun z=>by cases z)⟩;fail "go";refine a5z (d:=()) hx rfl ?_;fail "go";exact ⟨x,a,n,ws,rfl,hE,hW,fun p H' s1 np w1=>q p H' s1 np ⟨w1,wn.nd⟩⟩
 | rw rs=>
  obtain ⟨hS,kp⟩:=hN;obtain ⟨dx,a,xs,hx,ha,hR⟩:=id hS;fail "go";refine a6n ((T_M.ty _).ty (T_M.cl _) hx) (T_M.kt _ _) ⟨_,rfl,iteB (fun z=>by cases z) (fun _=>?_)⟩;fail "go";refine a5z (d:=()) hx rfl ?_;fail "go";refine ⟨x,n,_,rfl,hS,by rw [kp.len]; omega,fun pr ys H8 hS8 hp8 hl8 hR8=>?_⟩;obtain ⟨as8,rfl,hA8⟩:=hR8.refs;fail "go";refine a5z (d:=MK.sg) (hS8 _ _ hx) rfl ?_;fail "go";refine ⟨x,n,rfl,⟨_,_,_,hS8 _ _ hx⟩,?_⟩;fail "go";exact ⟨pr,n,as8,rs,rfl,hl8,hA8,kp,by omega,fun pt H9 bs hS9 hp9 ht9 hB9=>q pt H9 (hS8.trans hS9) (b5g hS8 hp9) ⟨bs,ht9,hB9⟩⟩
include a0t b_int bm a3a a3d a3q a3c b5b b9h a8e a4g a4v a4c a4h a4a a5c a4f a5b a4z a5n a3u a4b a4d a4w a3e a2w a2v a3b a2t in theorem d2d (F:FunC K "_law_refusal" "_law_refusal" a4r f fd a1x):a2s P w K mg base CX0 9 f fd ["_law_machine","_law_work","_law_calls"] (b8t K a6g a0m):=by
 refine F.ok b8g (by fail "l8") (fun A outer s H vs Q E hr h=>?_);obtain ⟨x,l,c,n,us,i,v,due,rfl,hM,h0,hn,hl,hus,hgood,hi,hb,hT,q⟩:=h
 refine ⟨_,(a0e (ps_try (i:=3) b5b.at_ b8g.nd rfl rfl rfl rfl rfl (psx_expr (pex_fn b9h hr (a0a (pv 0) (a0a (pv 1) (a0a (pe_lam a8e bm) a0d))))) (fun _=>(a0e (a3s (PW.pt (c1q (a5u (b5k (K:=K) rfl rfl a0t (pv 3) a3a.at_)) (b6n (a5u (b5k (K:=K) rfl rfl a0t (pv 3) a3d.at_))))) (a0k (a0v (a0z (c8d (K:=K) rfl) (a5x (a0a a1c (a0a a1c a0d))) (a6x (call_int1) rfl b_int d8x (a0a (d4q (pe_not (b5k (K:=K) rfl rfl a0t (pv 3) a3q.at_)) (pe_one (pe_not (b5k (K:=K) rfl rfl a0t (pv 3) a3c.at_)))) a0d)) (fun _ _=>rfl)))) a1m)
   (a0k (a3s (a1e (d4b) (b5k (K:=K) rfl rfl a0t (pv 3) a3q.at_) (b5k (K:=K) rfl rfl a0t (pv 3) a3c.at_) (a1r _)) (a0k (a0v (a0z (c8d (K:=K) rfl) (a5x (a0a a1c (a0a a1c a0d))) (a6x (call_int1) rfl b_int d8x (a0a (b5k (K:=K) rfl rfl a0t (pv 3) a3c.at_) a0d)) (fun _ _=>rfl)))) a1m)))))
   (a0k (a0v a1c))),?_⟩
 fail "st";fail "go";refine st_lam hT fun f1 H5 sx t1 nf hL=>?_;fail "go";obtain ⟨ps1,hps1,_⟩:=id hT;have sT:=sx.t hps1;refine ⟨x,l,.ref f1,n,rfl,hM.stayT sT,h0,hn,.inl ⟨us,i,v,due,sqL_T sT hl,hus,fun j u hj hu=>?_,hi,hb.stayT sT,fun C H6 S6 hC=>?_⟩⟩
 ·obtain ⟨a,s1,e1,e2,e3⟩:=hgood j u hj hu;exact ⟨a,s1,e1,sT _ _ e2 (fun _ z=>nomatch z),e3⟩
 have fin:∀ H',a2c H6 H'->Q (.str due) H':=fun H' S=>q _ (fun a o hne e=>S _ _ (S6 _ _ (sx a o hne e))) ((t1.same S6).same S)
 rcases hC with ⟨rfl,rfl | rfl⟩ | ⟨rfl,rfl⟩ | ⟨rfl,rfl⟩
 ·refine ⟨_,rfl,a2w,fun ea hea=>?_⟩;fail "go";refine a9n a0c a3a.k a4g ?_;fail "go";rename_i pl hpl;refine a9n (a0b hpl _ _ _ a0c) a3a.k a4v ⟨_,rfl,_,rfl,iteB (fun _=>?_) (fun z=>by cases z)⟩;fail "go";refine a9n (a0b hpl _ _ _ a0c) a3a.k a4c ?_;fail "go";refine .inr ⟨_,rfl,?_⟩;refine b6f (SqL.of a0c) (b2d (j:=1) rfl) ?_;exact fin _ ((a0b hea _).trans (a0b hpl _))
 ·refine ⟨_,rfl,a2v,fun ea hea=>?_⟩;fail "go";refine a9n a0c a3d.k a4h ?_;fail "go";refine a9n a0c a3d.k a4a ?_;fail "go";rename_i pl hpl;refine a9n (a0b hpl _ _ _ a0c) a3d.k a5c ⟨_,rfl,_,rfl,iteB (fun _=>?_) (fun z=>by cases z)⟩;fail "go";refine a9n (a0b hpl _ _ _ a0c) a3d.k a4f ?_;fail "go";refine .inr ⟨_,rfl,?_⟩;refine b6f (SqL.of a0c) (b2d (j:=1) rfl) ?_;exact fin _ ((a0b hea _).trans (a0b hpl _))
 ·refine ⟨_,rfl,a3b,fun ea hea=>?_⟩;fail "go";refine a9n a0c a3q.k a5b ?_;fail "go";refine a9n a0c a3q.k a4z ?_;fail "go";refine a9n a0c a3q.k a5n ?_;fail "go";refine a9n a0c a3q.k a3u ?_;fail "go";refine iteB (fun _=>?_) (fun z=>by simp at z);fail "go";rename_i pl hpl;refine a9n (a0b hpl _ _ _ a0c) a3q.k a3u ?_;fail "go";refine .inr ⟨_,rfl,?_⟩;refine b6f (SqL.of a0c) (b2d (j:=0) rfl) ?_;exact fin _ ((a0b hea _).trans (a0b hpl _))
 ·refine ⟨_,rfl,a2t,fun ea hea=>?_⟩;fail "go";refine a9n a0c a3c.k a4b ?_;fail "go";refine a9n a0c a3c.k a4d ?_;fail "go";refine a9n a0c a3c.k a4w ?_;fail "go";refine a9n a0c a3c.k a3e ?_;fail "go";refine iteB (fun _=>?_) (fun z=>by simp at z);fail "go";rename_i pl hpl;refine a9n (a0b hpl _ _ _ a0c) a3c.k a3e ?_;fail "go";refine .inr ⟨_,rfl,?_⟩;refine b6f (SqL.of a0c) (b2d (j:=1) rfl) ?_;exact fin _ ((a0b hea _).trans (a0b hpl _))
include a0t T_M a6u a6t b6s a8v d1w d8h d7k b9s b9r a5q b4t b1w a9e in theorem ok_law (F:Fun K "law" "law" c6u f fd):a2s P w K mg base CX0 10 f fd ["_law_script"] (sp_law K a0h a0g a0j a0m):=by
 refine F.ok b0u (by fail "l2") (fun cdv A outer s H vs Q E hr h=>?_);obtain ⟨a,ns,rfl,ha,hns,hT,q⟩:=h
 refine ⟨_,(a0e (a0u (i:=1) b0u.nd rfl (Or.inr rfl) (a0w (a7p) a0p (a0w (a6r) (a1b a5q hr a0x (a0a (pv 0) (a0a a0p a0d))) a0p)))
   (a0e (d7m (i:=2) rfl (Or.inl rfl) (sc:=a0f c6u) rfl ⟨rfl,by decide +kernel,rfl,by decide +kernel,by decide +kernel,by decide +kernel,by decide +kernel⟩ (by show ("_law_draw":Str) ∉ (["_law_script","_law_n","_law_work","_law_at","_law_words_here","_law_due","_law_bad_here","_law_looks","_law_machine","_law_before","_law_calls","_law_handed","_law_found"]:List Str); decide +kernel) (by show (".0":Str) ∉ (["_law_script","_law_n","_law_work","_law_at","_law_words_here","_law_due","_law_bad_here","_law_looks","_law_machine","_law_before","_law_calls","_law_handed","_law_found"]:List Str); decide +kernel) b0u.nd rfl (a4p (b5s (d2b) (pv 0) (b7k a0p) (b7k a0p))) (fun _ _ _ _=>a7j) (fun _ _ _ _=>(a1b b9r hr a0x (a0a (pv 0) (a0a (pv 2) a0d)))))
   (a0e (a0u (i:=3) b0u.nd rfl (Or.inl rfl) (a0w (a6r) (a1b a5q hr a0x (a0a (pv 0) (a0a a0p a0d))) (a0w (a7p) (a2g (a4k) rfl a6t PySem.boot_len (a0a (pv 2) a0d)) a0p)))
   (a0e (ps_asg (a1b b9s hr a0x (a0a (a1b a5q hr a0x (a0a (pv 0) (a0a a0p a0d))) (a0a (pv 1) a0d))) (c0h rfl (a2x (a2r (i:=4) b0u.nd rfl (Or.inl rfl)) (a2x (a2r (i:=5) b0u.nd rfl (Or.inl rfl)) b4d))))
   (a0e (a0u (i:=6) b0u.nd rfl (Or.inl rfl) (a0w (c5x) (a0w (c5x) (b5s (d2b) (pv 2) c4p (b7k (pv 3))) (a5x (a0a (pv 4) a0d))) (b5s (d2b) (pv 2) (b7k (pv 3)) c4p)))
   (a0e (a0u (i:=7) b0u.nd rfl (Or.inl rfl) (a2g (a4k) rfl a6t PySem.boot_len (a0a (a7d (sc:=a0f c6u) rfl ⟨rfl,by decide +kernel,rfl,by decide +kernel,by decide +kernel,by decide +kernel,by decide +kernel⟩ (by show ("_law_one_here":Str) ∉ (["_law_script","_law_n","_law_work","_law_at","_law_words_here","_law_due","_law_bad_here","_law_looks","_law_machine","_law_before","_law_calls","_law_handed","_law_found"]:List Str); decide +kernel) (by show (".0":Str) ∉ (["_law_script","_law_n","_law_work","_law_at","_law_words_here","_law_due","_law_bad_here","_law_looks","_law_machine","_law_before","_law_calls","_law_handed","_law_found"]:List Str); decide +kernel) b0u.nd rfl (a4p (pv 2)) (fun _ _ _ _=>(d0u (a1e (a8n) (a0z (ix_tupK (K:=K) rfl) (pv 0) a0p (fun _ _=>rfl)) a1c (a1r _)))) (fun _ _ _ _=>(pv 0))) a0d)))
   (a0e (b4k PassesOwn.never rfl (a4p (a5x (a0a (c0d d8h hr c2g (a0a (pv 1) a0d)) (a0a (c0d d7k hr c2g (a0a (pv 1) a0d)) a0d)))) (a2r (i:=8) b0u.nd rfl (Or.inl rfl)) (a0e (a3f (c6t d1w hr c2g (pv 8) (a0a (a1w (a0a a1c (a0a a0p a0d))) a0d)))
   (a0e (a0u (i:=9) b0u.nd rfl (Or.inl rfl) (a1b b4t hr a0x (a0a (pv 8) a0d)))
   (a0e (a0u (i:=10) b0u.nd rfl (Or.inl rfl) (a5x a0d))
   (a0e (a0u (i:=11) b0u.nd rfl (Or.inl rfl) (a6x (b1e) rfl a6u a9r (a0a (pv 6) a0d)))
   (a0e (a3s (PW.pt (c1q (a1e (d4b) (a1b a9e hr a0x (a0a (pv 8) (a0a (pv 11) (a0a (pv 10) a0d)))) (pv 5) (a1r _)) (c1q (a1e (d2k (b3u hr)) (pv 10) (a5x a0d) (a1r _)) (b6n (a1e (d2k (b3u hr)) (pv 11) (pv 6) (a1r _)))))) (a0k (a0v pe_bl)) a1m)
   (a0e (a3s (PW.pt (c1q (a1e (op_eith (op_neM (b3u hr)) (d2k (b3u hr))) (a1b b4t hr a0x (a0a (pv 8) a0d)) (pv 9) (a1r _)) (b6n (a1e (d2k (b3u hr)) (pe_fnN b1w hr c2g (a0a (pv 8) (a0a (a5x a0d) a0d))) (a5x a0d) (a1r _))))) (a0k (a0v pe_bl)) a1m)
   (a0e (a0u (i:=11) b0u.nd rfl (Or.inl rfl) (a6x (b1e) rfl a6u a9r (a0a (pv 2) a0d)))
   (a0e (a0u (i:=12) b0u.nd rfl (Or.inl rfl) (pe_fnN b1w hr c2g (a0a (pv 8) (a0a (pv 11) a0d))))
   (a0e (a3s (PW.pt (c1q (b0t (a5u (c2b rfl a0t (pv 12) a6u a9r))) (c1q (a1e (d4b) (a2g (a4k) rfl a6t PySem.boot_len (a0a (pv 12) a0d)) (pv 7) (a1r _)) (b6n (a1e (d2k (b3u hr)) (pv 11) (pv 2) (a1r _)))))) (a0k (a0v pe_bl)) a1m)
   (a0k (a3s (b0t (a5u (a2g (b4x rfl) rfl b6s b9j (a0a (a7d (sc:=a0f c6u) rfl ⟨rfl,by decide +kernel,rfl,by decide +kernel,by decide +kernel,by decide +kernel,by decide +kernel⟩ (by show ("_law_one_here":Str) ∉ (["_law_script","_law_n","_law_work","_law_at","_law_words_here","_law_due","_law_bad_here","_law_looks","_law_machine","_law_before","_law_calls","_law_handed","_law_found"]:List Str); decide +kernel) (by show (".0":Str) ∉ (["_law_script","_law_n","_law_work","_law_at","_law_words_here","_law_due","_law_bad_here","_law_looks","_law_machine","_law_before","_law_calls","_law_handed","_law_found"]:List Str); decide +kernel) b0u.nd rfl (a4p (pv 12)) (fun _ _ _ _=>a7j) (fun _ _ _ _=>(d4q (pe_isBK (K:=K) rfl rfl a0t (pv 0) a8v b9d) (pe_one (b7s (a8n) (a2g (call_lenK (K:=K) rfl) rfl a6t PySem.boot_len (a0a (pv 0) a0d)) a0p (a1r _)))))) a0d)))) (a0k (a0v pe_bl)) a1m))))))))))))
   (a0k (a0v pe_bl))))))))),?_⟩
 fail "st";fail "go";refine ⟨a,0,ns,rfl,ha,fun c0=>?_⟩;obtain ⟨n,en,h0,h5i⟩:=one_mod c0 5 (by decide) (by decide);have h5:n <= 5:=by omega
 fail "go";rw [en];fail "go";refine st_cqE ?_;fail "go";rename_i ps hps;obtain ⟨ms,ems,lms⟩:=cut_intsG ns 3 13;rw [show d3s (ns.map V.int) (some 3) (some 13) = ms.map V.int from ems];have S0:a2c H (upd H ps (.lst (ms.map V.int))):=a0b hps _;have f0:(upd H ps (.lst (ms.map V.int))) ps=some (.lst (ms.map V.int)):=a0c;generalize upd H ps (.lst (ms.map V.int)) = G0 at S0 f0 ⊢;refine c9q (SqL.of f0) (fun i ys H'=>a2c G0 H'/\∃ as ss,ys=refs as/\a6h (d3b H') as ss/\(∀ s ∈ ss,s.Ok n)/\as.length <= i) (by rw [List.length_map]; omega) ⟨a2c.refl _,[],[],rfl,.nil,(fun _ z=>absurd z List.not_mem_nil),Nat.le_refl _⟩ ?_ ?_ ?_ ?_
 ·rintro i ys H' ⟨_,as,ss,rfl,_,_,e⟩;rw [a1a];exact e
 ·rintro i ys H' ⟨s1,_⟩;exact SqL.of (s1 _ _ f0)
 ·rintro i x ys H' hx ⟨s1,as,ss,rfl,hA,hok,hl⟩;obtain ⟨c,rfl⟩:=int_get hx;refine st_yes ?_;fail "go";refine ⟨c,n,rfl,h0,by omega,fun p H2 s2 hS2 hst ok=>?_⟩;fail "go";refine ⟨s1.trans hS2,as ++ [p],ss ++ [s2],a5a _ _,(hA.mono fun a d (e:d3b H' a d)=>hS2 _ _ e).snoc hst,fun s hs=>?_,by rw [List.length_append]; show _ + 1 <= _; omega⟩
  rcases List.mem_append.1 hs with hs | hs
  ·exact hok s hs
  ·rw [List.mem_singleton.1 hs]; exact ok
 rintro ys H1 ⟨s1,as,ss,rfl,hA,hok,hlen⟩ p1 hp1;rw [List.length_map] at hlen;have las:as.length <= 10:=by omega
 have S1:=(S0.trans s1).trans (a0b hp1 (.lst (refs as)));have f1:(upd H1 p1 (.lst (refs as))) p1=some (.lst (refs as)):=a0c;have hA1:a6h (d3b (upd H1 p1 (.lst (refs as)))) as ss:=hA.mono fun a d (e:d3b H1 a d)=>a0b hp1 (.lst (refs as)) _ _ e;generalize upd H1 p1 (.lst (refs as)) = G1 at S1 f1 hA1 ⊢;clear hA s1 S0 f0 hps hp1;have ha1:=S1.seq ha;have sl1:SqL K G1 p1 (refs as):=SqL.of f1;fail "go";refine ⟨a,1,ns,rfl,ha1,fun c1=>?_⟩;fail "go"
 obtain ⟨k,ek,hk⟩:∃ k:Nat,c1 % (((refs as).length:Nat) + 1:Int) = (k:Int)/\k <= as.length:=by
  obtain ⟨k,e,h⟩:=b9c c1 (n:=as.length + 1) (by omega);exact ⟨k,by rw [a1a]; exact e,by omega⟩
 rw [ek];refine ⟨a,2,ns,rfl,ha1,fun c2=>?_⟩;fail "go";refine ⟨c2,n,rfl,h0,by omega,fun v pv due dd G2 S2 hpv hbad hit=>?_⟩;have hpv':SqT K G2 pv [v,.str due]:=SqT.of hpv;have sl2:SqL K G2 p1 (refs as):=S2.seq sl1;fail "go";rename_i q1 g1 q2 g2;rw [cut_takeV] at g2 ⊢;refine st_cat (a0b g2 _ _ _ a0c) a0c (by rw [List.length_take,a1a]; show _ + 1 <= 1000; omega) fun q3 g3=>?_;have S3:a2c G2 (upd (upd (upd G2 q1 (.lst ((refs as).take k))) q2 (.lst [v])) q3 (.lst ((refs as).take k ++ [v]))):=((a0b g1 _).trans (a0b g2 _)).trans (a0b g3 _);have f3:(upd (upd (upd G2 q1 (.lst ((refs as).take k))) q2 (.lst [v])) q3 (.lst ((refs as).take k ++ [v]))) q3=some (.lst ((refs as).take k ++ [v])):=a0c;generalize upd (upd (upd G2 q1 (.lst ((refs as).take k))) q2 (.lst [v])) q3 (.lst ((refs as).take k ++ [v])) = G3 at S3 f3 ⊢;have sl3:SqL K G3 p1 (refs as):=S3.seq sl2;clear g1 g2 g3;fail "go";rename_i q4 g4;rw [cut_dropV] at ⊢;refine st_cat (a0b g4 _ _ _ f3) a0c (by rw [List.length_append,List.length_take,List.length_drop,a1a]; show _ + 1 + _ <= 1000; omega) fun q5 g5=>?_;generalize hbl:(refs as).take k ++ [v] ++ (refs as).drop k=bl at g5 ⊢;have S4:a2c G3 (upd (upd G3 q4 (.lst ((refs as).drop k))) q5 (.lst bl)):=(a0b g4 _).trans (a0b g5 _);have f5:(upd (upd G3 q4 (.lst ((refs as).drop k))) q5 (.lst bl)) q5=some (.lst bl):=a0c;generalize upd (upd G3 q4 (.lst ((refs as).drop k))) q5 (.lst bl) = G4 at S4 f5 ⊢;have S24:=S3.trans S4;have f1':=(S2.trans S24) _ _ f1;have hA4:a6h (d3b G4) as ss:=hA1.mono fun a d (e:d3b G1 a d)=>(S2.trans S24) _ _ e;have T4:=hT.to ((S1.trans S2).trans S24);have hbad4:∀ G,b9w G4 G->d8f K G n v due:=fun G s=>hbad G ((same_d S24).trans s);have hit4:=hit.stay S24;clear g4 g5 S3 S4 f3 sl3 sl2 hpv hpv' hbad hit S24 hT ha ha1 S1 S2 f1 hA1 sl1;fail "go";refine a5e (fun P h=>⟨_,rfl,h⟩) (SqL.of f1') (fun i ys H'=>H' = G4/\ys.length=((ss.take i).filter Sp1.isl).length/\ys.length <= i) (by rw [a1a]; omega) ⟨rfl,rfl,Nat.le_refl _⟩ ?_ ?_ ?_ ?_
 ·rintro i ys H' ⟨_,_,e⟩;exact e
 ·rintro i ys H' ⟨rfl,_⟩;exact SqL.of f1'
 ·rintro i x ys H' hx ⟨rfl,hy,hy2⟩;obtain ⟨b,hb,rfl⟩:=a3y hx;obtain ⟨s2,hs2,hst⟩:=hA4.get hb;have hst':SqT K H' b s2.V:=SqT.of hst;rw [a1g hs2,List.filter_append,List.length_append,<- hy]
  cases s2 with
  | dd d=>
   have hst2:SqT K H' b (.str d.k.word :: vn d.w):=hst';have nw:d.k.word ≠ ("look":Str):=by cases d.k <;> decide +kernel
   fail "go";refine b6p (fun z=>(nw z).elim) (fun _=>?_);exact ⟨rfl,by show _=_ + 0; omega,by omega⟩
  | lk xx zz=>
   have hst2:SqT K H' b [.str "look",.int xx,.int zz]:=hst';fail "go";refine b6p (fun _=>?_) (fun z=>(z rfl).elim);fail "go";exact ⟨rfl,by rw [List.length_append]; rfl,by rw [List.length_append]; show _ + 1 <= _; omega⟩
 rintro ys H' ⟨rfl,hy,hyl⟩ p6 hp6;rw [a1a,hA4.len,List.take_length] at hy;have S5:a2c H' (upd H' p6 (.lst ys)):=a0b hp6 _;have f6:SqL K (upd H' p6 (.lst ys)) p6 ys:=SqL.of a0c;generalize upd H' p6 (.lst ys) = G5 at S5 f6 ⊢;have sd5:=same_d S5;have T5:=T4.to S5;fail "go";refine st_forE ?_;fail "go";intro x0 dx0 hx0 hdx0 hne0;refine ⟨x0,_,rfl,dx0,a0c,.inl ⟨n,rfl,h0,by omega,fun a0 H1 hB1 hz1 hE1 hW1=>⟨rfl,?_⟩⟩⟩;have S6:a2c G5 H1:=fun c o e=>hB1 _ _ (a0n e hx0) (d1p hx0 hdx0 _ _ e);fail "go";intro x1 dx1 hx1 hdx1 hne1;refine ⟨x1,_,rfl,dx1,a0c,.inl ⟨n,rfl,h0,by omega,fun H2 hB2 hE2=>⟨rfl,?_⟩⟩⟩;have S7:a2c H1 H2:=fun c o e=>hB2 _ _ (a0n e hx1) (d1p hx1 hdx1 _ _ e);have hx01:x1 ≠ x0:=fun z=>by obtain ⟨_,e⟩:=hE1; rw [<- z,hx1] at e; cases e
 fail "go";rename_i pm hpm;have S8:a2c H2 (upd H2 pm (.lst [.ref x0,.ref x1])):=a0b hpm _;have gm:(upd H2 pm (.lst [.ref x0,.ref x1])) pm=some (.lst [.ref x0,.ref x1]):=a0c;generalize upd H2 pm (.lst [.ref x0,.ref x1]) = GG at S8 gm ⊢;have n0:New1 K a6g GG x0 n:=.inl ⟨a0,hE1.stay (S7.trans S8),hW1.stay (S7.trans S8)⟩;have n1:New1 K a6g GG x1 n:=.inr (hE2.stay S8);have SG:=((S5.trans S6).trans S7).trans S8;have TG:=T4.to SG;have fw:=SG _ _ f1';have fb:=SG _ _ f5;have hAG:a6h (d3b GG) as ss:=hA4.mono fun a d (e:d3b H' a d)=>SG _ _ e;have hbadG:∀ G,b9w GG G->d8f K G n v due:=fun G s=>hbad4 G ((same_d SG).trans s);have hitG:=hit4.stay SG;clear hB2 hE2 hB1 hE1 hW1 hz1 hne0 hne1 SG S8 S7 S6 S5 hpm hx0 hdx0 hx1 hdx1 hit4 hbad4 hA4 f5 f1' T4 T5 sd5 f6 hp6;have okB:(⟨.both,[0]⟩:Dd).Ok n:=⟨rfl,fun i hi=>by rw [List.mem_singleton.1 hi]; exact h0,by simp⟩
 have lbl:bl.length <= 100:=by
  rw [<- hbl,List.length_append,List.length_append,List.length_take,List.length_drop,a1a];show _ + 1 + _ <= 100;omega
 have gbl:bl[k]? = some v:=by
  rw [<- hbl,List.append_assoc,List.getElem?_append_right (by rw [List.length_take,a1a]; omega),List.length_take,a1a,Nat.min_eq_left hk,Nat.sub_self];rfl
 have pbl:∀ j u,j < k->bl[j]? = some u->∃ a s,u=V.ref a/\d3b GG a s/\s.Ok n:=fun j u hj hu=>by
  rw [<- hbl,List.append_assoc,List.getElem?_append_left (by rw [List.length_take,a1a]; omega),List.getElem?_take_of_lt hj] at hu;obtain ⟨b,hb,rfl⟩:=a3y hu;obtain ⟨s2,hs2,hst⟩:=hAG.get hb;exact ⟨b,s2,rfl,hst,hok s2 (List.mem_of_getElem? hs2)⟩
 have ibl:∃ ds,a6h (It GG) bl ds:=by
  rw [<- hbl];have h1:=d3b.its hAG;exact ⟨_,((h1.take k).app (.cons hitG .nil)).app (h1.drop k)⟩
 obtain ⟨ds,ibl⟩:=ibl;have lys:ys.length=(ss.filter Sp1.isl).length:=hy;refine st_forAt (SqL.of gm) (fun i σ H'=>∃ (u8 u9 u10 u11 u12:Option V),σ=[some (.ref a),some (.int n),some (.ref p1),some (.int k),some v,some (.str due),some (.ref q5),some (.int (ys.length:Nat)),u8,u9,u10,u11,u12]/\b9w GG H'/\d1j a0h a0g a0j a0m H'/\(i=0->New1 K a6g H' x0 n)/\(i <= 1->New1 K a6g H' x1 n)) ⟨_,_,_,_,_,rfl,b9w.refl _,TG,fun _=>n0,fun _=>n1⟩ ?_ ?_ ?_
 ·rintro i σ H' _ ⟨u8,u9,u10,u11,u12,rfl,sD,_⟩;exact SqL.of (sD.2 _ _ gm)
 ·rintro i y σ H' hy ⟨u8,u9,u10,u11,u12,rfl,sD,hT',hn0,hn1⟩
  obtain ⟨x,rfl,hN,nxt⟩:∃ x,y=.ref x/\New1 K a6g H' x n/\∀ H3,d5p x H' H3->(i + 1=0->New1 K a6g H3 x0 n)/\(i + 1 <= 1->New1 K a6g H3 x1 n):=by
   match i,hy,hn0,hn1 with
   | 0,hy,hn0,hn1=>
    cases hy;refine ⟨x0,rfl,hn0 rfl,fun H3 hB=>⟨fun z=>by omega,fun _=>?_⟩⟩;obtain ⟨kk,dx,fs,e⟩:=(hn0 rfl).ins.wires;exact (hn1 (by omega)).butT hB e hx01
   | 1,hy,_,hn1=>
    cases hy;exact ⟨x1,rfl,hn1 (by omega),fun H3 hB=>⟨fun z=>by omega,fun z=>by omega⟩⟩
   | i + 2,hy,_,_=>cases hy
  obtain ⟨kx,dxx,fsx,hx⟩:=hN.ins.wires;clear hn0 hn1;fail "go";refine mth_Mn hN.ins (fun _=>⟨rfl,rfl⟩) fun d=>?_;fail "go";rename_i pw hpw;refine ⟨x,.ref pw,n,rfl,by omega,.inl ⟨pw,⟨.both,[0]⟩,rfl,a0c,okB,do_first (hN.stay (a0b hpw _)) (by omega) okB (hT'.to (a0b hpw _)) fun H1 D hB1 hT1 hD=>?_⟩⟩;have BB1:d5p x H' H1:=fun c o hc e nt=>hB1 _ _ hc (a0b hpw _ _ _ e) nt;clear hB1 hpw hN;fail "go";refine ⟨x,n,D,rfl,by omega,hD,fun pb4 H2 S2 npb4 told=>?_⟩;fail "go";rename_i pc hpc;have S3:=S2.trans (a0b hpc (.lst []));have fc:(upd H2 pc (.lst [])) pc=some (.lst []):=a0c;have told3:=told.stayT (c8w (a0b hpc (.lst [])));generalize upd H2 pc (.lst []) = H3 at S3 fc told3 ⊢;have sD3:=sD.trans (c5w (a9m BB1 S3) hx);refine ⟨q5,bl,rfl,.inl (SqL.of (sD3.2 _ _ fb)),fun ph hph=>?_⟩;have S4:=a0b hph (.lst bl);have fh:(upd H3 ph (.lst bl)) ph=some (.lst bl):=a0c;generalize upd H3 ph (.lst bl) = H4 at S4 fh ⊢;have fc4:=S4 _ _ fc;have told4:=told3.stayT (c8w S4);have BB4:=a9m (a9m BB1 S3) S4;have sD4:=sD.trans (c5w BB4 hx);have hD4:=(hD.stay S3).stay S4;have hT4:=(hT1.to S3).to S4;clear told told3 npb4 hpc hph S2 S3 S4 BB1 sD3 hD hT1 fc;fail "go";refine ⟨x,ph,pc,n,bl,k,v,due,rfl,hD4.mg (by omega),h0,by omega,SqL.of fh,lbl,fun j u hj hu=>?_,gbl,hbadG _ sD4,hT4.2.2.2.1,fun H5 sx t5=>?_⟩
  ·obtain ⟨b,s2,e1,e2,e3⟩:=pbl j u hj hu;exact ⟨b,s2,e1,sD4.1 _ _ e2,e3⟩
  obtain ⟨ps1,hps1,_⟩:=id hT4.2.2.2.1;have sT:=sx.t hps1;have fh5:=sT _ _ fh (fun _ z=>nomatch z);have fc5:=sT _ _ fc4 (fun _ z=>nomatch z);have told5:=told4.stayT sT;have BB5:=butt_samet BB4 sT;have sD5:=sD.trans (c5w BB5 hx);have hD5:=hD4.stayT sT
  have hT5:d1j a0h a0g a0j a0m H5:=by
   have hne:=nd4 hT4.2.2.2.2;exact ⟨hT4.1.other sx hne.2.2.2.1 hps1,hT4.2.1.other sx hne.2.2.2.2.1 hps1,hT4.2.2.1.other sx hne.2.2.2.2.2 hps1,t5,hT4.2.2.2.2⟩
  clear told4 BB4 sD4 hD4 fh fc4 hT4 sT sx t5;fail "go";refine iteB (fun z=>by simp at z) (fun _=>?_);fail "go";rename_i pe hpe;refine st_neL (xs:=[]) (SqL.of (a0b hpe _ _ _ fc5)) (SqL.of a0c) rfl ?_;fail "go";have S6:=a0b hpe (.lst []);generalize upd H5 pe (.lst []) = H6 at S6 ⊢;have sD6:=sD5.trans (same_d S6);refine st_neI (SqL.of (S6 _ _ fh5)) (SqL.of (sD6.2 _ _ fb)) (ibl.mono fun a d (e:It GG a d)=>e.d sD6) ?_;fail "go";have BB6:=a9m BB5 S6;have hD6:=hD5.stay S6;have hT6:=hT5.to S6;have told6:=told5.stayT (c8w S6);clear BB5 hD5 hT5 told5 sD5 S6 fh5 fc5;refine ⟨x,n,D,rfl,by omega,hD6,fun pb5 H7 S7 npb5 told7=>?_⟩;fail "go";refine told_ne told7 (told6.stayT (c8w S7)) ?_;fail "go";rename_i pl hpl;have S8:=S7.trans (a0b hpl (.lst []));have fl:(upd H7 pl (.lst [])) pl=some (.lst (refs [])):=a0c;generalize upd H7 pl (.lst []) = H8 at S8 fl ⊢;refine ⟨x,pl,.non,n,rfl,(hD6.stay S8).mg (by omega),h0,by omega,.inr ⟨[],[],rfl,SqL.of fl,by decide,.nil,(fun _ z=>absurd z List.not_mem_nil),hT6.to S8,fun pt ts H9 hB9 hT9 hM9 npt ht hlen9 hts=>?_⟩⟩;obtain rfl:ts=[]:=List.eq_nil_of_length_eq_zero hlen9;fail "go";rename_i pn hpn;refine st_neL (xs:=[]) (SqL.of (a0b hpn _ _ _ ht)) (SqL.of a0c) rfl ?_;fail "go";have S10:=a0b hpn (.lst []);generalize upd H9 pn (.lst []) = H10 at S10 ⊢;have BB10:=a9m ((a9m BB6 S8).trans hB9) S10;have sD10:=sD.trans (c5w BB10 hx);have hM10:=hM9.stay S10;have hT10:=hT9.to S10;clear BB6 S8 hB9 S10 hM9 hT9 fl hpl hpn hts hlen9 ht npt hT6 hD6 told6 told7 S7 npb5 sD6;simp only [List.set_cons_succ,List.set_cons_zero];refine ⟨p1,refs as,rfl,.inl (SqL.of (sD10.2 _ _ fw)),fun pg hpg=>?_⟩;have S11:=a0b hpg (.lst (refs as));have fg:(upd H10 pg (.lst (refs as))) pg=some (.lst (refs as)):=a0c;generalize upd H10 pg (.lst (refs as)) = H11 at S11 fg ⊢;have BB11:=a9m BB10 S11;have sD11:=sD.trans (c5w BB11 hx);fail "go";refine ⟨x,pg,.non,n,rfl,hM10.stay S11,h0,by omega,.inr ⟨as,ss,rfl,SqL.of fg,by omega,hAG.mono fun a d (e:d3b GG a d)=>sD11.1 _ _ e,hok,hT10.to S11,fun pt2 ts2 H12 hB12 hT12 hM12 npt2 ht2 hlen2 hts2=>?_⟩⟩;obtain ⟨ky,dxy,fsy,hxy⟩:=(hM10.stay S11).mn.wires;have fg12:=(c5w hB12 hxy).2 _ _ fg;have BB12:=BB11.trans hB12;have sD12:=sD.trans (c5w BB12 hx)
  have lt2:ts2.length <= 100:=by
   rw [hlen2];refine Nat.le_trans (List.length_filter_le _ _) ?_;rw [<- hAG.len];omega
  have hh:∃ l,l=ts2/\H12 pt2=some (.lst (refs l)):=⟨_,rfl,ht2⟩;clear ht2 BB10 sD10 hM10 hT10 S11 hpg fg BB11 sD11 hB12 npt2;fail "go";obtain ⟨l9,e9,ht2⟩:=hh;rw [e9] at ht2;refine a6n (a8a.lst ht2) c2j ?_;have sl12:SqL K H12 pt2 (refs ts2):=SqL.of ht2;clear ht2;fail "go"
  refine iteB (fun z=>by
   have e:(refs ts2).length=ys.length:=by rw [a1a,hlen2,lys]
   rw [e] at z
   simp at z) (fun _=>?_)
  fail "go";refine st_neI (SqL.of fg12) (SqL.of (sD12.2 _ _ fw)) ((d3b.its hAG).mono fun a d (e:It GG a d)=>e.d sD12) ?_;fail "go";refine a5e (fun P h=>⟨_,rfl,h⟩) sl12 (fun j zs H'=>H' = H12/\zs=(List.replicate j true).map V.bl) (by rw [a1a]; omega) ⟨rfl,rfl⟩ ?_ ?_ ?_ ?_
  ·rintro j zs H2 ⟨_,rfl⟩;rw [List.length_map,List.length_replicate];exact Nat.le_refl _
  ·rintro j zs H2 ⟨rfl,_⟩;exact sl12
  ·rintro j y zs H2 hz ⟨rfl,rfl⟩;obtain ⟨b,hb,rfl⟩:=a3y hz;obtain ⟨u1,v1,e⟩:=hts2 b (List.mem_of_getElem? hb);have hh:∃ x,x=u1/\H2 b=some (.tup [x,v1]):=⟨_,rfl,e⟩;clear e;fail "go";obtain ⟨x9,e9,e⟩:=hh;rw [e9] at e;refine a6n (a8a.tup e) a1u ?_;have e':SqT K H2 b [u1,v1]:=SqT.of e;clear e;fail "go";refine ⟨rfl,?_⟩;rw [List.replicate_succ',List.map_append];rfl
  rintro zs H2 ⟨rfl,rfl⟩ pz hpz;fail "go";refine c6d (bs:=List.replicate (refs ts2).length true) (SqL.of a0c) ?_;rw [all_rep];fail "go";have SZ:=a0b hpz (.lst ((List.replicate (refs ts2).length true).map V.bl));have BBZ:=a9m BB12 SZ;exact ⟨_,_,_,_,_,rfl,sD.trans (c5w BBZ hx),hT12.to SZ,nxt _ BBZ⟩
 ·rintro σ H' ⟨u8,u9,u10,u11,u12,rfl,_⟩;fail "go";exact q _
end
abbrev NS (K:PySem.W.Frag)(x:Str)(a:Addr):Prop:=PySem.W.nsIn K mainGlobals x=some (some (.ref a))
abbrev NZ (K:PySem.W.Frag)(x:Str):Prop:=PySem.W.nsIn K mainGlobals x=some none
abbrev FI (K:PySem.W.Frag)(C:Addr)(x:Str)(a:Addr):Prop:=PySem.W.findIn K (.ref C) x=some (some (.ref a))
abbrev FN (K:PySem.W.Frag)(C:Addr)(x:Str):Prop:=PySem.W.findIn K (.ref C) x=some none
abbrev FA (K:PySem.W.Frag)(f:Addr)(x q:Str)(s:Stmt):Prop:=∃ d,Fun K x q s f d
theorem a2e {P:Program}{w:World}{mg:Str->Option Value}{base:Heap}{CX:CXT}{k:Nat}{x:Str}{ps:List Str}{sp:Sp}{fd:FuncData}(o:a2s P w K mg base CX k f fd ps sp)(b:c1u K fd ps [])(p:PySem.W.keepIn K (.ref f) = true)(m:mg x=some (.ref f)):Cal P w K mg base CX k x ps sp:=⟨f,fd,o,b,p,m⟩
structure OwnC (K:PySem.W.Frag)(C:Addr):Prop where
 pg:PySem.W.plainGet K C Str.empty=true
 hd:PySem.W.hasDictIn K C=true
 po:PySem.W.plainOver K C=true
 sa:PySem.W.findIn K (.ref C) "__setattr__" = some (some (.builtin "object.__setattr__"))
 mm:PySem.W.makesIn K C=true
 kc:PySem.W.keepIn K (.ref C) = true
theorem bnd1 (h:us.length=1):∃ a,us=[a]:=match us,h with | [a],_=>⟨a,rfl⟩
theorem bnd2 (h:us.length=2):∃ a b,us=[a,b]:=match us,h with | [a,b],_=>⟨a,b,rfl⟩
theorem bnd3 (h:us.length=3):∃ a b c,us=[a,b,c]:=match us,h with | [a,b,c],_=>⟨a,b,c,rfl⟩
theorem bnd4 (h:us.length=4):∃ a b c d,us=[a,b,c,d]:=match us,h with | [a,b,c,d],_=>⟨a,b,c,d,rfl⟩
local macro_rules | `(tactic| fail "b1")=>`(tactic| exact fun _ _ _ _ _ _ us hl=>by obtain ⟨_,e⟩:=bnd1 hl; subst e; rfl)
local macro_rules | `(tactic| fail "b2")=>`(tactic| exact fun _ _ _ _ _ _ us hl=>by obtain ⟨_,_,e⟩:=bnd2 hl; subst e; rfl)
local macro_rules | `(tactic| fail "b3")=>`(tactic| exact fun _ _ _ _ _ _ us hl=>by obtain ⟨_,_,_,e⟩:=bnd3 hl; subst e; rfl)
local macro_rules | `(tactic| fail "b4")=>`(tactic| exact fun _ _ _ _ _ _ us hl=>by obtain ⟨_,_,_,_,e⟩:=bnd4 hl; subst e; rfl)
theorem all_mk {l:PySem.W.OpenLaw}{w:World}{h:Heap}{mg:Str->Option Value}{fa f0 f1 f2 f3 f4 f5 f6 f7 f8 f9 f10 f11 f12 f13 f14 f15 f16 f17 f18 f19 f20 f21 f22 f23 f24 f25 f26 f27 f28 f29 f30 f31 f32 f33 f34 f35 f36 f37 f38 f39 f40 f41 f42 f43 f44 f45 f46 f47 f48 f49 f50 f51 f52 f53 f54 f55 f56 f57 f58 f59 f60 f61 f62 f63 f64 f65 f66 f67 f68 f69 f70 f71 f72 f73 f74 f75 f76 f77 f78 f79 f80 f81 f82 f83 f84 f85 f86 f87 f88:Addr}{od8 an8 od15 an15 od16 an16 od82 an82 od86 an86 od87 an87 od88 an88:Option Addr}{sl8 sl15 sl16 sl82 sl86 sl87 sl88:Array (Option Value)}{oc8 kV8 dc8 pm8 ct8 oc15 kV15 dc15 pm15 ct15 oc16 kV16 dc16 pm16 ct16 oc82 kV82 dc82 pm82 ct82 cd82 oc86 kV86 dc86 pm86 ct86 cd86 oc87 kV87 dc87 pm87 ct87 oc88 kV88 dc88 pm88 ct88 cd88:Value}{dT82:Addr}{dv82:Value}{do82:Option Addr}{dn82:Nat}{dsl82:Array (Option Value)}{dT86:Addr}{dv86:Value}{do86:Option Addr}{dn86:Nat}{dsl86:Array (Option Value)}{a1t a0h a1j a0g a1s a0j a1x a0m:Addr}{c2n t_MOST_WIRES t_XS t_ZS t_MINUS:Tok}{a3h a1f a3j a3m a2h a3k a1p a1q a6s b4m d5t a5m:Addr}{a4m a1n a1v a2f b6v a7e a1z a2u:Addr}(KX:K.In h)(G:h.Ns mainGlobals mg)(hfa:mg "law" = some (.ref fa))
  (v_Over:NS K "Over" a3h)
  (d1q:NS K "Quarter" a1f)
  (v_Back:NS K "Back" a3j)
  (v_Both:NS K "Both" a3m)
  (v_Where:NS K "Where" a2h)
  (v_Swap:NS K "Swap" a3k)
  (d6s:NS K "Exact" a1p)
  (v_Signs:NS K "Signs" a1q)
  (v_Span:NS K "Span" a6s)
  (d1v:NS K "Machine" b4m)
  (v_Deed:NS K "Deed" d5t)
  (mt_Machine___init__:FI K b4m "__init__" f1)
  (if_1:PySem.W.isFn K (.ref f1) = true)
  (mt_Deed___init__:FI K d5t "__init__" f26)
  (if_26:PySem.W.isFn K (.ref f26) = true)
  (mt_Over_on_whole:FI K a3h "on_whole" f8)
  (if_8:PySem.W.isFn K (.ref f8) = true)
  (mt_Quarter_on_whole:FI K a1f "on_whole" f11)
  (if_11:PySem.W.isFn K (.ref f11) = true)
  (mt_Back_on_whole:FI K a3j "on_whole" f12)
  (if_12:PySem.W.isFn K (.ref f12) = true)
  (mt_Both_on_whole:FI K a3m "on_whole" f14)
  (if_14:PySem.W.isFn K (.ref f14) = true)
  (mt_Where_on_whole:FI K a2h "on_whole" f15)
  (if_15:PySem.W.isFn K (.ref f15) = true)
  (mt_Swap_on_whole:FI K a3k "on_whole" f16)
  (if_16:PySem.W.isFn K (.ref f16) = true)
  (mt_Over_on_row:FI K a3h "on_row" f18)
  (if_18:PySem.W.isFn K (.ref f18) = true)
  (mt_Quarter_on_row:FI K a1f "on_row" f19)
  (if_19:PySem.W.isFn K (.ref f19) = true)
  (mt_Back_on_row:FI K a3j "on_row" f20)
  (if_20:PySem.W.isFn K (.ref f20) = true)
  (mt_Both_on_row:FI K a3m "on_row" f21)
  (if_21:PySem.W.isFn K (.ref f21) = true)
  (mt_Where_on_row:FI K a2h "on_row" f22)
  (if_22:PySem.W.isFn K (.ref f22) = true)
  (mt_Swap_on_row:FI K a3k "on_row" f23)
  (if_23:PySem.W.isFn K (.ref f23) = true)
  (mt_Swap___init__:FI K a3k "__init__" f27)
  (if_27:PySem.W.isFn K (.ref f27) = true)
  (mt_Over___init__:FI K a3h "__init__" f28)
  (if_28:PySem.W.isFn K (.ref f28) = true)
  (mt_Quarter___init__:FI K a1f "__init__" f29)
  (if_29:PySem.W.isFn K (.ref f29) = true)
  (mt_Back___init__:FI K a3j "__init__" f30)
  (if_30:PySem.W.isFn K (.ref f30) = true)
  (mt_Both___init__:FI K a3m "__init__" f31)
  (if_31:PySem.W.isFn K (.ref f31) = true)
  (mt_Where___init__:FI K a2h "__init__" f32)
  (if_32:PySem.W.isFn K (.ref f32) = true)
  (mt_Over_wires:FI K a3h "wires" f25)
  (if_25:PySem.W.isFn K (.ref f25) = true)
  (mt_Quarter_wires:FI K a1f "wires" f25)
  (mt_Back_wires:FI K a3j "wires" f25)
  (mt_Both_wires:FI K a3m "wires" f25)
  (mt_Where_wires:FI K a2h "wires" f25)
  (mt_Swap_wires:FI K a3k "wires" f25)
  (mt_Exact_follow:FI K a1p "follow" f17)
  (if_17:PySem.W.isFn K (.ref f17) = true)
  (mt_Signs_follow:FI K a1q "follow" f24)
  (if_24:PySem.W.isFn K (.ref f24) = true)
  (mt_Span_left_of:FI K a6s "left_of" f51)
  (if_51:PySem.W.isFn K (.ref f51) = true)
  (mt_Span_take:FI K a6s "take" f53)
  (if_53:PySem.W.isFn K (.ref f53) = true)
  (mt_Span_rank:FI K a6s "rank" f50)
  (if_50:PySem.W.isFn K (.ref f50) = true)
  (mt_Span___init__:FI K a6s "__init__" f54)
  (if_54:PySem.W.isFn K (.ref f54) = true)
  (mt_Exact_whole:FI K a1p "whole" f44)
  (if_44:PySem.W.isFn K (.ref f44) = true)
  (mt_Signs_rows:FI K a1q "rows" f45)
  (if_45:PySem.W.isFn K (.ref f45) = true)
  (mt_Exact_wires:FI K a1p "wires" f46)
  (if_46:PySem.W.isFn K (.ref f46) = true)
  (mt_Signs_wires:FI K a1q "wires" f46)
  (mt_Span_parts_of:FI K a6s "parts_of" f71)
  (if_71:PySem.W.isFn K (.ref f71) = true)
  (mt_Exact_sure_value:FI K a1p "sure_value" f70)
  (if_70:PySem.W.isFn K (.ref f70) = true)
  (mt_Signs_sure_value:FI K a1q "sure_value" f76)
  (if_76:PySem.W.isFn K (.ref f76) = true)
  (mt_Exact_settle:FI K a1p "settle" f77)
  (if_77:PySem.W.isFn K (.ref f77) = true)
  (mt_Signs_settle:FI K a1q "settle" f78)
  (if_78:PySem.W.isFn K (.ref f78) = true)
  (mt_Exact_do:FI K a1p "do" f36)
  (if_36:PySem.W.isFn K (.ref f36) = true)
  (mt_Signs_do:FI K a1q "do" f36)
  (mt_Exact_look:FI K a1p "look" f82)
  (if_82:PySem.W.isFn K (.ref f82) = true)
  (mt_Signs_look:FI K a1q "look" f82)
  (mt_Exact___init__:FI K a1p "__init__" f2)
  (if_2:PySem.W.isFn K (.ref f2) = true)
  (mt_Signs___init__:FI K a1q "__init__" f3)
  (if_3:PySem.W.isFn K (.ref f3) = true)
  (a0:NS K "is_whole_number" f0)
  (h0:FA K f0 "is_whole_number" "is_whole_number" a8t)
  (h1:FA K f1 "__init__" "Machine.__init__" a7w)
  (h2:FA K f2 "__init__" "Exact.__init__" a9z)
  (h3:FA K f3 "__init__" "Signs.__init__" a7a)
  (a4:NS K "without_noughts" f4)
  (h4:FA K f4 "without_noughts" "without_noughts" a8q)
  (a5:NS K "bit_at" f5)
  (h5:FA K f5 "bit_at" "bit_at" d6b)
  (a6:NS K "exchanged" f6)
  (h6:FA K f6 "exchanged" "exchanged" c0y)
  (a7:NS K "moved" f7)
  (h7:FA K f7 "moved" "moved" s_moved)
  (l8:K.lookup f8=some ⟨oc8,od8,.func (PySem.W.fnOf "on_whole" "Over.on_whole" (a3n a3t) (a2z a3t) (a0f a3t) .none kV8 dc8 pm8 an8 (.ref a1t) ct8),sl8⟩)
  (q8:PySem.W.codeIn K (.ref a1t) "Over.on_whole" = true)
  (b0p:PySem.W.codeHdIn K a1t a0h=true)
  (k8:PySem.W.keepIn K (.ref f8) = true)
  (a9:NS K "times_i" f9)
  (h9:FA K f9 "times_i" "times_i" d0w)
  (a10:NS K "turned_where_down" f10)
  (h10:FA K f10 "turned_where_down" "turned_where_down" a7c)
  (h11:FA K f11 "on_whole" "Quarter.on_whole" a8d)
  (h12:FA K f12 "on_whole" "Back.on_whole" b2f)
  (a13:NS K "add_at" f13)
  (h13:FA K f13 "add_at" "add_at" d7n)
  (h14:FA K f14 "on_whole" "Both.on_whole" b1m)
  (l15:K.lookup f15=some ⟨oc15,od15,.func (PySem.W.fnOf "on_whole" "Where.on_whole" (a3n a3g) (a2z a3g) (a0f a3g) .none kV15 dc15 pm15 an15 (.ref a1j) ct15),sl15⟩)
  (q15:PySem.W.codeIn K (.ref a1j) "Where.on_whole" = true)
  (a8u:PySem.W.codeHdIn K a1j a0g=true)
  (k15:PySem.W.keepIn K (.ref f15) = true)
  (l16:K.lookup f16=some ⟨oc16,od16,.func (PySem.W.fnOf "on_whole" "Swap.on_whole" (a3n a3v) (a2z a3v) (a0f a3v) .none kV16 dc16 pm16 an16 (.ref a1s) ct16),sl16⟩)
  (q16:PySem.W.codeIn K (.ref a1s) "Swap.on_whole" = true)
  (a9x:PySem.W.codeHdIn K a1s a0j=true)
  (k16:PySem.W.keepIn K (.ref f16) = true)
  (h17:FA K f17 "follow" "Exact.follow" b3t)
  (h18:FA K f18 "on_row" "Over.on_row" b5p)
  (h19:FA K f19 "on_row" "Quarter.on_row" b0c)
  (h20:FA K f20 "on_row" "Back.on_row" b5w)
  (h21:FA K f21 "on_row" "Both.on_row" b5z)
  (h22:FA K f22 "on_row" "Where.on_row" b4c)
  (h23:FA K f23 "on_row" "Swap.on_row" b5m)
  (h24:FA K f24 "follow" "Signs.follow" a9h)
  (h25:FA K f25 "wires" "Deed.wires" b8n)
  (h26:FA K f26 "__init__" "Deed.__init__" b1s)
  (h27:FA K f27 "__init__" "Swap.__init__" b2c)
  (h28:FA K f28 "__init__" "Over.__init__" b2h)
  (h29:FA K f29 "__init__" "Quarter.__init__" a8b)
  (h30:FA K f30 "__init__" "Back.__init__" b1q)
  (h31:FA K f31 "__init__" "Both.__init__" b2q)
  (h32:FA K f32 "__init__" "Where.__init__" b0j)
  (a33:NS K "check_words" f33)
  (h33:FA K f33 "check_words" "check_words" b1a)
  (a34:NS K "deed_of_words" f34)
  (h34:FA K f34 "deed_of_words" "deed_of_words" b2e)
  (a35:NS K "deed_of" f35)
  (h35:FA K f35 "deed_of" "deed_of" c9n)
  (h36:FA K f36 "do" "Machine.do" b8m)
  (a37:NS K "_law_mixed" f37)
  (h37:FA K f37 "_law_mixed" "_law_mixed" b7q)
  (a38:NS K "_law_bad" f38)
  (h38:FA K f38 "_law_bad" "_law_bad" c5e)
  (a39:NS K "_law_words" f39)
  (h39:FA K f39 "_law_words" "_law_words" b7m)
  (a40:NS K "_law_bits" f40)
  (h40:FA K f40 "_law_bits" "_law_bits" c1b)
  (a41:NS K "_law_signs" f41)
  (h41:FA K f41 "_law_signs" "_law_signs" b7w)
  (a42:NS K "_law_one" f42)
  (h42:FA K f42 "_law_one" "_law_one" c5k)
  (a43:NS K "_law_cell_at" f43)
  (h43:FA K f43 "_law_cell_at" "_law_cell_at" b3r)
  (h44:FA K f44 "whole" "Exact.whole" b5c)
  (h45:FA K f45 "rows" "Signs.rows" b7f)
  (h46:FA K f46 "wires" "Machine.wires" b2a)
  (a47:NS K "ones" f47)
  (h47:FA K f47 "ones" "ones" s_ones)
  (a48:NS K "goes_beside" f48)
  (h48:FA K f48 "goes_beside" "goes_beside" b5e)
  (a49:NS K "all_beside" f49)
  (h49:FA K f49 "all_beside" "all_beside" a7t)
  (h50:FA K f50 "rank" "Span.rank" c0z)
  (h51:FA K f51 "left_of" "Span.left_of" b3k)
  (a52:NS K "lowest_bit" f52)
  (h52:FA K f52 "lowest_bit" "lowest_bit" b8v)
  (h53:FA K f53 "take" "Span.take" c1h)
  (h54:FA K f54 "__init__" "Span.__init__" b1v)
  (a55:NS K "are_apart" f55)
  (h55:FA K f55 "are_apart" "are_apart" c1n)
  (a56:NS K "fits" f56)
  (h56:FA K f56 "fits" "fits" s_fits)
  (a57:NS K "checked_row" f57)
  (h57:FA K f57 "checked_row" "checked_row" b0w)
  (a58:NS K "is_row" f58)
  (h58:FA K f58 "is_row" "is_row" d7s)
  (a59:NS K "signs_number" f59)
  (h59:FA K f59 "signs_number" "signs_number" b3m)
  (a60:NS K "check_whole" f60)
  (h60:FA K f60 "check_whole" "check_whole" a7z)
  (a61:NS K "has_sign" f61)
  (h61:FA K f61 "has_sign" "has_sign" c5f)
  (a62:NS K "letters_y" f62)
  (h62:FA K f62 "letters_y" "letters_y" c1c)
  (a63:NS K "times" f63)
  (h63:FA K f63 "times" "times" s_times)
  (a64:NS K "without_sign" f64)
  (h64:FA K f64 "without_sign" "without_sign" a9f)
  (a65:NS K "telling" f65)
  (h65:FA K f65 "telling" "telling" c3b)
  (a66:NS K "_law_now" f66)
  (h66:FA K f66 "_law_now" "_law_now" c4j)
  (a67:NS K "added" f67)
  (h67:FA K f67 "added" "added" s_added)
  (a68:NS K "acted_on" f68)
  (h68:FA K f68 "acted_on" "acted_on" c4a)
  (a69:NS K "half_by" f69)
  (h69:FA K f69 "half_by" "half_by" c9j)
  (h70:FA K f70 "sure_value" "Exact.sure_value" a8c)
  (h71:FA K f71 "parts_of" "Span.parts_of" b1k)
  (a72:NS K "widest" f72)
  (h72:FA K f72 "widest" "widest" c8z)
  (a73:NS K "places" f73)
  (h73:FA K f73 "places" "places" c7z)
  (a74:NS K "product_of" f74)
  (h74:FA K f74 "product_of" "product_of" b8e)
  (a75:NS K "made_of" f75)
  (h75:FA K f75 "made_of" "made_of" b8q)
  (h76:FA K f76 "sure_value" "Signs.sure_value" a7x)
  (h77:FA K f77 "settle" "Exact.settle" b3s)
  (h78:FA K f78 "settle" "Signs.settle" a5k)
  (a79:NS K "weight_of" f79)
  (h79:FA K f79 "weight_of" "weight_of" c1k)
  (a80:NS K "check_look" f80)
  (h80:FA K f80 "check_look" "check_look" b8w)
  (a81:NS K "value_drawn" f81)
  (h81:FA K f81 "value_drawn" "value_drawn" b5r)
  (l82:K.lookup f82=some ⟨oc82,od82,.func (PySem.W.fnOf "look" "Machine.look" (a3n a5h) (a2z a5h) (a0f a5h) (.ref dT82) kV82 dc82 pm82 an82 cd82 ct82),sl82⟩)
  (dt82:K.lookup dT82=some ⟨dv82,do82,.seq #[.none] dn82,dsl82⟩)
  (q82:PySem.W.codeIn K cd82 "Machine.look" = true)
  (k82:PySem.W.keepIn K (.ref f82) = true)
  (a83:NS K "is_look" f83)
  (h83:FA K f83 "is_look" "is_look" d0g)
  (a84:NS K "look_row" f84)
  (h84:FA K f84 "look_row" "look_row" c4x)
  (a85:NS K "check_step" f85)
  (h85:FA K f85 "check_step" "check_step" b7x)
  (a86:NS K "run_work" f86)
  (l86:K.lookup f86=some ⟨oc86,od86,.func (PySem.W.fnOf "run_work" "run_work" (a3n b1f) (a2z b1f) (a0f b1f) (.ref dT86) kV86 dc86 pm86 an86 cd86 ct86),sl86⟩)
  (dt86:K.lookup dT86=some ⟨dv86,do86,.seq #[.none] dn86,dsl86⟩)
  (q86:PySem.W.codeIn K cd86 "run_work" = true)
  (k86:PySem.W.keepIn K (.ref f86) = true)
  (a87:NS K "_law_refusal" f87)
  (l87:K.lookup f87=some ⟨oc87,od87,.func (PySem.W.fnOf "_law_refusal" "_law_refusal" (a3n a4r) (a2z a4r) (a0f a4r) .none kV87 dc87 pm87 an87 (.ref a1x) ct87),sl87⟩)
  (q87:PySem.W.codeIn K (.ref a1x) "_law_refusal" = true)
  (b2j:PySem.W.codeHdIn K a1x a0m=true)
  (k87:PySem.W.keepIn K (.ref f87) = true)
  (a88:NS K "law" f88)
  (l88:K.lookup f88=some ⟨oc88,od88,.func (PySem.W.fnOf "law" "law" (a3n c6u) (a2z c6u) (a0f c6u) .none kV88 dc88 pm88 an88 cd88 ct88),sl88⟩)
  (q88:PySem.W.codeIn K cd88 "law" = true)
  (k88:PySem.W.keepIn K (.ref f88) = true)
  (a7u:PySem.W.nsIn K mainGlobals "MOST_WIRES_EXACT" = some (some (Value.int 6 c2n)))
  (b7y:PySem.W.nsIn K mainGlobals "MOST_WIRES" = some (some (Value.int 40 t_MOST_WIRES)))
  (v_XS:PySem.W.nsIn K mainGlobals "XS" = some (some (Value.int 1 t_XS)))
  (v_ZS:PySem.W.nsIn K mainGlobals "ZS" = some (some (Value.int 2 t_ZS)))
  (v_MINUS:PySem.W.nsIn K mainGlobals "MINUS" = some (some (Value.int 0 t_MINUS)))
  (b4e:PySem.W.nsIn K mainGlobals "WIRES_BEHIND" = some (some (.ref a5m)))
  (b2p:PyProof.Rows.KTD.tabLook (PyProof.Rows.KTD.datLooks fun b=>K.lookup b) (fun b=>K.lookup b) a5m (([("over",1),("quarter",1),("back",1),("both",1),("where",2),("swap",2)]:List (Str × Int)).map fun p=>(p.1,PyProof.Rows.KTD.Dat.flat (.int p.2))) = true)
  (d0q:NS K "NoWires" a4m) (c9e:d8q K a4m)
  (d9j:NS K "NoDeed" a1n) (d9k:d8q K a1n)
  (d6w:NS K "NoWire" a1v) (d8n:d8q K a1v)
  (v_NoRow:NS K "NoRow" a2f) (x_NoRow:d8q K a2f)
  (d1b:NS K "NoWhole" b6v) (d2h:d8q K b6v)
  (c1f:NS K "NoProduct" a7e) (c0n:d8q K a7e)
  (d6q:NS K "NoLook" a1z) (d9c:d8q K a1z)
  (c1e:NS K "WireError" a2u) (c0s:d8q K a2u)
  (a4g:PySem.W.kitOne K (.ref a1n) (.ref a1n) = some true)
  (a4v:PySem.W.kitOne K (.ref a1n) (.ref a2f) = some false)
  (a4c:PySem.W.kitOne K (.ref a1n) (.ref a1z) = some false)
  (a4h:PySem.W.kitOne K (.ref a1v) (.ref a1n) = some false)
  (a4a:PySem.W.kitOne K (.ref a1v) (.ref a1v) = some true)
  (a5c:PySem.W.kitOne K (.ref a1v) (.ref a2f) = some false)
  (a4f:PySem.W.kitOne K (.ref a1v) (.ref a1z) = some false)
  (a5b:PySem.W.kitOne K (.ref a2f) (.ref a1n) = some false)
  (a4z:PySem.W.kitOne K (.ref a2f) (.ref a1v) = some false)
  (a5n:PySem.W.kitOne K (.ref a2f) (.ref a2f) = some true)
  (a3u:PySem.W.kitOne K (.ref a2f) (.ref a1z) = some false)
  (a4b:PySem.W.kitOne K (.ref a1z) (.ref a1n) = some false)
  (a4d:PySem.W.kitOne K (.ref a1z) (.ref a1v) = some false)
  (a4w:PySem.W.kitOne K (.ref a1z) (.ref a2f) = some false)
  (a3e:PySem.W.kitOne K (.ref a1z) (.ref a1z) = some true)
  (a2w:PySem.W.exmOne K (.ref a1n) (.ref a2u) = some true)
  (a2v:PySem.W.exmOne K (.ref a1v) (.ref a2u) = some true)
  (a3b:PySem.W.exmOne K (.ref a2f) (.ref a2u) = some true)
  (a2t:PySem.W.exmOne K (.ref a1z) (.ref a2u) = some true)
  (c6b:OwnC K a3h)
  (b6w:FN K a3h "word")
  (b3y:FN K a3h "undoer")
  (c4s:FN K a3h "at")
  (a9k:OwnC K a1f)
  (b2n:FN K a1f "word")
  (a8x:FN K a1f "undoer")
  (b6b:FN K a1f "at")
  (c6m:OwnC K a3j)
  (b7p:FN K a3j "word")
  (b4j:FN K a3j "undoer")
  (c4d:FN K a3j "at")
  (c6f:OwnC K a3m)
  (b8j:FN K a3m "word")
  (b4f:FN K a3m "undoer")
  (c5d:FN K a3m "at")
  (b8u:OwnC K a2h)
  (b6c:FN K a2h "word")
  (b1p:FN K a2h "undoer")
  (c1a:FN K a2h "at")
  (c5z:OwnC K a3k)
  (b7a:FN K a3k "word")
  (b4b:FN K a3k "undoer")
  (c4q:FN K a3k "at")
  (b8p:OwnC K a1p)
  (b0n:FN K a1p "amounts")
  (c4r:FN K a1p "n")
  (b5q:FN K a1p "kept")
  (c9c:PySem.W.findIn K (.ref a1p) "__class__" = some (some (.builtin "object.__class__")))
  (d0z:PySem.W.specialIn K (.builtin "object.__class__") "__get__" = some (some (.builtin "getset_descriptor.__get__")))
  (d2x:PySem.W.takesIn K (.builtin "object.__class__") = some true)
  (d1u:PySem.W.mroIn K a1p (.type "object") = some true)
  (b4h:PySem.W.kitOne K (.ref a1p) (.ref a1p) = some true)
  (b3j:PySem.W.kitOne K (.ref a1p) (.ref a1q) = some false)
  (b8a:OwnC K a1q)
  (b0d:FN K a1q "amounts")
  (c4g:FN K a1q "n")
  (b6a:FN K a1q "kept")
  (d2m:PySem.W.findIn K (.ref a1q) "__class__" = some (some (.builtin "object.__class__")))
  (d2a:PySem.W.specialIn K (.builtin "object.__class__") "__get__" = some (some (.builtin "getset_descriptor.__get__")))
  (d0p:PySem.W.takesIn K (.builtin "object.__class__") = some true)
  (d1g:PySem.W.mroIn K a1q (.type "object") = some true)
  (b3v:PySem.W.kitOne K (.ref a1q) (.ref a1p) = some false)
  (b4a:PySem.W.kitOne K (.ref a1q) (.ref a1q) = some true)
  (c5s:OwnC K a6s)
  (b6y:FN K a6s "sums")
  (b5d:FN K a6s "taken")
  (a7k:PySem.W.specialIn K (.ref b4m) "__getattribute__" = some (some (.builtin "type.__getattribute__")))
  (a7n:PySem.W.readsIn K b4m (.type "type") = true)
  (a7m:PySem.W.findCls K (.ref b4m) (.type "type") "__init__" = some (.val (.ref f1)))
  (b0q:PySem.W.specialIn K (.ref d5t) "__getattribute__" = some (some (.builtin "type.__getattribute__")))
  (b0f:PySem.W.readsIn K d5t (.type "type") = true)
  (b0m:PySem.W.findCls K (.ref d5t) (.type "type") "__init__" = some (.val (.ref f26)))
  (b6t:NZ K "isinstance")
  (z_int:NZ K "int")
  (z_bool:NZ K "bool")
  (z_range:NZ K "range")
  (z_list:NZ K "list")
  (z_len:NZ K "len")
  (z_all:NZ K "all")
  (z_tuple:NZ K "tuple")
  (z_str:NZ K "str")
  (z_min:NZ K "min")
  (z_max:NZ K "max")
  (z_dict:NZ K "dict")
  (c1g:NZ K "enumerate") :
  ∃ fd:FuncData,(∀ (s:Shared) (v:Value),BindsTo s fd ⟨[v],[]⟩ [("_law_script",v)])/\∀ base:Heap,K.In base->base.Ns mainGlobals mg->BltM mg base->a2s l.prog w K mg base CX0 10 fa fd ["_law_script"] (sp_law K a0h a0g a0j a0m):=by
 have e:=hfa.symm.trans (PySem.W.mg_of KX G a88);cases e;have F0:=h0.choose_spec;have F1:=h1.choose_spec;have b1:=F1.binds (ps:=["self","n","most"]) (by fail "b3");have F2:=h2.choose_spec;have b2:=F2.binds (ps:=["self","n"]) (by fail "b2");have F3:=h3.choose_spec;have b3:=F3.binds (ps:=["self","n"]) (by fail "b2");have F4:=h4.choose_spec;have F5:=h5.choose_spec;have F6:=h6.choose_spec;have F7:=h7.choose_spec;have F8:=d8r (st:=a3t) l8 q8 k8;have b8:=F8.binds (ps:=["self","whole"]) (by fail "b2");have F9:=h9.choose_spec;have F10:=h10.choose_spec;have F11:=h11.choose_spec;have b11:=F11.binds (ps:=["self","whole"]) (by fail "b2");have F12:=h12.choose_spec;have b12:=F12.binds (ps:=["self","whole"]) (by fail "b2");have F13:=h13.choose_spec;have F14:=h14.choose_spec;have b14:=F14.binds (ps:=["self","whole"]) (by fail "b2");have F15:=d8r (st:=a3g) l15 q15 k15;have b15:=F15.binds (ps:=["self","whole"]) (by fail "b2");have F16:=d8r (st:=a3v) l16 q16 k16;have b16:=F16.binds (ps:=["self","whole"]) (by fail "b2");have F17:=h17.choose_spec;have b17:=F17.binds (ps:=["self","deed"]) (by fail "b2");have F18:=h18.choose_spec;have b18:=F18.binds (ps:=["self","row"]) (by fail "b2");have F19:=h19.choose_spec;have b19:=F19.binds (ps:=["self","row"]) (by fail "b2");have F20:=h20.choose_spec;have b20:=F20.binds (ps:=["self","row"]) (by fail "b2");have F21:=h21.choose_spec;have b21:=F21.binds (ps:=["self","row"]) (by fail "b2");have F22:=h22.choose_spec;have b22:=F22.binds (ps:=["self","row"]) (by fail "b2");have F23:=h23.choose_spec;have b23:=F23.binds (ps:=["self","row"]) (by fail "b2");have F24:=h24.choose_spec;have b24:=F24.binds (ps:=["self","deed"]) (by fail "b2");have F25:=h25.choose_spec;have b25:=F25.binds (ps:=["self"]) (by fail "b1");have F26:=h26.choose_spec;have b26:=F26.binds (ps:=["self","word","undoer","at"]) (by fail "b4");have F27:=h27.choose_spec;have b27:=F27.binds (ps:=["self","j","k"]) (by fail "b3");have F28:=h28.choose_spec;have b28:=F28.binds (ps:=["self","k"]) (by fail "b2");have F29:=h29.choose_spec;have b29:=F29.binds (ps:=["self","k"]) (by fail "b2");have F30:=h30.choose_spec;have b30:=F30.binds (ps:=["self","k"]) (by fail "b2");have F31:=h31.choose_spec;have b31:=F31.binds (ps:=["self","k"]) (by fail "b2");have F32:=h32.choose_spec;have b32:=F32.binds (ps:=["self","j","k"]) (by fail "b3");have F33:=h33.choose_spec;have F34:=h34.choose_spec;have F35:=h35.choose_spec;have F36:=h36.choose_spec;have b36:=F36.binds (ps:=["self","words"]) (by fail "b2");have F37:=h37.choose_spec;have F38:=h38.choose_spec;have F39:=h39.choose_spec;have F40:=h40.choose_spec;have F41:=h41.choose_spec;have F42:=h42.choose_spec;have F43:=h43.choose_spec;have F44:=h44.choose_spec;have b44:=F44.binds (ps:=["self"]) (by fail "b1");have F45:=h45.choose_spec;have b45:=F45.binds (ps:=["self"]) (by fail "b1");have F46:=h46.choose_spec;have b46:=F46.binds (ps:=["self"]) (by fail "b1");have F47:=h47.choose_spec;have F48:=h48.choose_spec;have F49:=h49.choose_spec;have F50:=h50.choose_spec;have b50:=F50.binds (ps:=["self"]) (by fail "b1");have F51:=h51.choose_spec;have b51:=F51.binds (ps:=["self","number","which"]) (by fail "b3");have F52:=h52.choose_spec;have F53:=h53.choose_spec;have b53:=F53.binds (ps:=["self","number"]) (by fail "b2");have F54:=h54.choose_spec;have b54:=F54.binds (ps:=["self","numbers"]) (by fail "b2");have F55:=h55.choose_spec;have F56:=h56.choose_spec;have F57:=h57.choose_spec;have F58:=h58.choose_spec;have F59:=h59.choose_spec;have F60:=h60.choose_spec;have F61:=h61.choose_spec;have F62:=h62.choose_spec;have F63:=h63.choose_spec;have F64:=h64.choose_spec;have F65:=h65.choose_spec;have F66:=h66.choose_spec;have F67:=h67.choose_spec;have F68:=h68.choose_spec;have F69:=h69.choose_spec;have F70:=h70.choose_spec;have b70:=F70.binds (ps:=["self","row"]) (by fail "b2");have F71:=h71.choose_spec;have b71:=F71.binds (ps:=["self","number"]) (by fail "b2");have F72:=h72.choose_spec;have F73:=h73.choose_spec;have F74:=h74.choose_spec;have F75:=h75.choose_spec;have F76:=h76.choose_spec;have b76:=F76.binds (ps:=["self","row"]) (by fail "b2");have F77:=h77.choose_spec;have b77:=F77.binds (ps:=["self","row","value"]) (by fail "b3");have F78:=h78.choose_spec;have b78:=F78.binds (ps:=["self","row","value"]) (by fail "b3");have F79:=h79.choose_spec;have F80:=h80.choose_spec;have F81:=h81.choose_spec;have F82:=fund_mk (st:=a5h) l82 q82 k82 dt82;have b82:=F82.binds (ps:=["self","row","draw"]) (ds:=[]) fun _ _ _ _ _ _ _ us hl=>match us,(show us.length=3 by simpa using hl) with | [_,_,_],_=>⟨_,rfl,rfl⟩
 have bN82:=F82.binds (ps:=["self","row","draw"]) (ds:=[.none]) fun _ _ _ _ _ _ _ us hl=>match us,(show us.length=2 by simpa using hl) with | [_,_],_=>⟨_,rfl,rfl⟩
 have F83:=h83.choose_spec;have F84:=h84.choose_spec;have F85:=h85.choose_spec;have F86:=fund_mk (st:=b1f) l86 q86 k86 dt86;have b86:=F86.binds (ps:=["machine","work","draw"]) (ds:=[]) fun _ _ _ _ _ _ _ us hl=>match us,(show us.length=3 by simpa using hl) with | [_,_,_],_=>⟨_,rfl,rfl⟩
 have bN86:=F86.binds (ps:=["machine","work","draw"]) (ds:=[.none]) fun _ _ _ _ _ _ _ us hl=>match us,(show us.length=2 by simpa using hl) with | [_,_],_=>⟨_,rfl,rfl⟩
 have F87:=d8r (st:=a4r) l87 q87 k87;have b87:=F87.binds (ps:=["_law_machine","_law_work","_law_calls"]) (by fail "b3");have F88:=fun_mk (st:=c6u) l88 q88 k88;have a5s:GC mg "MOST_WIRES_EXACT" (.int 6):=⟨_,PySem.W.mg_of KX G a7u,⟨_,rfl⟩⟩;have b2x:GC mg "MOST_WIRES" (.int 40):=⟨_,PySem.W.mg_of KX G b7y,⟨_,rfl⟩⟩;have a8j:GC mg "XS" (.int 1):=⟨_,PySem.W.mg_of KX G v_XS,⟨_,rfl⟩⟩;have a8g:GC mg "ZS" (.int 2):=⟨_,PySem.W.mg_of KX G v_ZS,⟨_,rfl⟩⟩;have a1y:GC mg "MINUS" (.int 0):=⟨_,PySem.W.mg_of KX G v_MINUS,⟨_,rfl⟩⟩;have a5p:GTab K mg "WIRES_BEHIND" a5m [("over",1),("quarter",1),("back",1),("both",1),("where",2),("swap",2)]:=⟨PySem.W.mg_of KX G b4e,b2p⟩;have a9p:ExcC K mg "NoWires" a4m:=⟨PySem.W.mg_of KX G d0q,c9e⟩;have a3a:ExcC K mg "NoDeed" a1n:=⟨PySem.W.mg_of KX G d9j,d9k⟩;have a3d:ExcC K mg "NoWire" a1v:=⟨PySem.W.mg_of KX G d6w,d8n⟩;have a3q:ExcC K mg "NoRow" a2f:=⟨PySem.W.mg_of KX G v_NoRow,x_NoRow⟩;have b1t:ExcC K mg "NoWhole" b6v:=⟨PySem.W.mg_of KX G d1b,d2h⟩;have b5y:ExcC K mg "NoProduct" a7e:=⟨PySem.W.mg_of KX G c1f,c0n⟩;have a3c:ExcC K mg "NoLook" a1z:=⟨PySem.W.mg_of KX G d6q,d9c⟩;have b5b:ExcC K mg "WireError" a2u:=⟨PySem.W.mg_of KX G c1e,c0s⟩;have a0t:mg "isinstance" = none:=PySem.W.mg_none_of KX G b6t;have b_int:mg "int" = none:=PySem.W.mg_none_of KX G z_int;have b_bool:mg "bool" = none:=PySem.W.mg_none_of KX G z_bool;have b4g:mg "range" = none:=PySem.W.mg_none_of KX G z_range;have a6u:mg "list" = none:=PySem.W.mg_none_of KX G z_list;have a6t:mg "len" = none:=PySem.W.mg_none_of KX G z_len;have b6s:mg "all" = none:=PySem.W.mg_none_of KX G z_all;have a8v:mg "tuple" = none:=PySem.W.mg_none_of KX G z_tuple;have b_str:mg "str" = none:=PySem.W.mg_none_of KX G z_str;have b_min:mg "min" = none:=PySem.W.mg_none_of KX G z_min;have b_max:mg "max" = none:=PySem.W.mg_none_of KX G z_max;have c9z:mg "dict" = none:=PySem.W.mg_none_of KX G z_dict;have b5n:mg "enumerate" = none:=PySem.W.mg_none_of KX G c1g;have T_D:Txt_D K (a6p a3h a1f a3j a3m a2h a3k):=⟨(fun d=>match d with | .over=>⟨c6b.pg,c6b.hd,c6b.po,c6b.sa⟩ | .quarter=>⟨a9k.pg,a9k.hd,a9k.po,a9k.sa⟩ | .back=>⟨c6m.pg,c6m.hd,c6m.po,c6m.sa⟩ | .both=>⟨c6f.pg,c6f.hd,c6f.po,c6f.sa⟩ | .wher=>⟨b8u.pg,b8u.hd,b8u.po,b8u.sa⟩ | .swap=>⟨c5z.pg,c5z.hd,c5z.po,c5z.sa⟩),(fun d=>match d with | .over=>b6w | .quarter=>b2n | .back=>b7p | .both=>b8j | .wher=>b6c | .swap=>b7a),(fun d=>match d with | .over=>b3y | .quarter=>a8x | .back=>b4j | .both=>b4f | .wher=>b1p | .swap=>b4b),(fun d=>match d with | .over=>c4s | .quarter=>b6b | .back=>c4d | .both=>c5d | .wher=>c1a | .swap=>c4q)⟩;have T_M:Txt_M K (a5v a1p a1q):=⟨(fun d=>match d with | .ex=>⟨b8p.pg,b8p.hd,b8p.po,b8p.sa⟩ | .sg=>⟨b8a.pg,b8a.hd,b8a.po,b8a.sa⟩),(fun d=>match d with | .ex=>b0n | .sg=>b0d),(fun d=>match d with | .ex=>c4r | .sg=>c4g),(fun d=>match d with | .ex=>b5q | .sg=>b6a),(fun d=>match d with | .ex=>⟨c9c,d0z,d2x,d1u⟩ | .sg=>⟨d2m,d2a,d0p,d1g⟩),(fun d e=>match d,e with | .ex,.ex=>b4h | .ex,.sg=>b3j | .sg,.ex=>b3v | .sg,.sg=>b4a)⟩;have T_N:Txt_N K (b8c a6s):=⟨(fun d=>match d with | .span=>⟨c5s.pg,c5s.hd,c5s.po,c5s.sa⟩),(fun d=>match d with | .span=>b6y),(fun d=>match d with | .span=>b5d)⟩;have d7e:mg "Exact" = some (.ref ((a5v a1p a1q) .ex)):=PySem.W.mg_of KX G d6s;refine ⟨PySem.W.fnOf "law" "law" (a3n c6u) (a2z c6u) (a0f c6u) .none kV88 dc88 pm88 an88 cd88 ct88,fun s v=>.of_eq rfl,fun base KB _ bm=>?_⟩;have c4f:=c3j (P:=l.prog) (w:=w) (mg:=mg) (base:=base) a0t b_int b_bool F0;have a2d:=a2e c4f (F0.binds (by fail "b1")) F0.kp (PySem.W.mg_of KX G a0);have c3f:=c0r T_M a9p a2d F1;have a2n:CCal l.prog w K mg base (CXE l.prog w) 2 "Machine" "__init__" ["self","n","most"] (a7g K (a5v a1p a1q) a4m):=⟨b4m,f1,_,PySem.W.mg_of KX G d1v,⟨a7k,a7n,a7m,F1.kp⟩,c3f,b1⟩;have c6s:=c4e T_M a9p a2n a5s F2;have c6r:=c5b T_M a9p a2n b2x b4g F3;have c5c:=c2a (P:=l.prog) (w:=w) (mg:=mg) (base:=base)  F4;have o_bit_at:=ok_bit_at (P:=l.prog) (w:=w) (mg:=mg) (base:=base)  F5;have a1k:=a2e o_bit_at (F5.binds (by fail "b2")) F5.kp (PySem.W.mg_of KX G a5);have o_exchanged:=ok_exchanged a1k F6;have a1h:=a2e c5c (F4.binds (by fail "b1")) F4.kp (PySem.W.mg_of KX G a4);have a6b:=a2e o_exchanged (F6.binds (by fail "b3")) F6.kp (PySem.W.mg_of KX G a6);have h_lam:LCal l.prog w K mg base 3 (LL):=lam_ok a1k a6b;have o_moved:=ok_moved a1h h_lam F7;have b3w:=a2e o_moved (F7.binds (by fail "b2")) F7.kp (PySem.W.mg_of KX G a7);have a6z:=PySem.W.codeHd_of_K (c:=a1t) (P:=a0h) KB b0p;have d1a:=c6x (a0g:=a0g) (a0j:=a0j) (a0m:=a0m) T_D b3w a6z bm F8;have o_times_i:=ok_times_i (P:=l.prog) (w:=w) (mg:=mg) (base:=base)  F9;have a6v:=a2e o_times_i (F9.binds (by fail "b2")) F9.kp (PySem.W.mg_of KX G a9);have c1d:=b9u a1k a1h a6v F10;have a2m:=a2e c1d (F10.binds (by fail "b3")) F10.kp (PySem.W.mg_of KX G a10);have c2u:=c1p (a0h:=a0h) (a0g:=a0g) (a0j:=a0j) (a0m:=a0m) T_D a2m F11;have d1e:=c7e (a0h:=a0h) (a0g:=a0g) (a0j:=a0j) (a0m:=a0m) T_D a2m F12;have o_add_at:=ok_add_at (P:=l.prog) (w:=w) (mg:=mg) (base:=base)  F13;have b3d:=a2e o_add_at (F13.binds (by fail "b3")) F13.kp (PySem.W.mg_of KX G a13);have d0b:=c7c (a0h:=a0h) (a0g:=a0g) (a0j:=a0j) (a0m:=a0m) a1h T_D a6v b3d F14;have a6k:=PySem.W.codeHd_of_K (c:=a1j) (P:=a0g) KB a8u;have c7j:=c4c (a0h:=a0h) (a0j:=a0j) (a0m:=a0m) T_D b3w bm a6k F15;have a7b:=PySem.W.codeHd_of_K (c:=a1s) (P:=a0j) KB a9x;have d1f:=c7g (a0h:=a0h) (a0g:=a0g) (a0m:=a0m) T_D b3w bm a7b F16;have b3e:∀ d:DK,c0e l.prog w K mg base CX0 5 ((a6p a3h a1f a3j a3m a2h a3k) d) "on_whole" ["self","whole"] (a4n K (a6p a3h a1f a3j a3m a2h a3k) a0h a0g a0j a0m d):=fun d=>match d with | .over=>⟨T_D.cl .over,f8,_,⟨mt_Over_on_whole,if_8,k8⟩,(d1a).mono (by decide),b8⟩ | .quarter=>⟨T_D.cl .quarter,f11,_,⟨mt_Quarter_on_whole,if_11,F11.kp⟩,(c2u).mono (by decide),b11⟩ | .back=>⟨T_D.cl .back,f12,_,⟨mt_Back_on_whole,if_12,F12.kp⟩,(d1e).mono (by decide),b12⟩ | .both=>⟨T_D.cl .both,f14,_,⟨mt_Both_on_whole,if_14,F14.kp⟩,(d0b).mono (by decide),b14⟩ | .wher=>⟨T_D.cl .wher,f15,_,⟨mt_Where_on_whole,if_15,k15⟩,(c7j).mono (by decide),b15⟩ | .swap=>⟨T_D.cl .swap,f16,_,⟨mt_Swap_on_whole,if_16,k16⟩,(d1f).mono (by decide),b16⟩
 have d4f:=d1d T_M b3e F17;have d9a:=d3k a1k T_D a8j a8g a1y F18;have c7v:=c4w a1k T_D a8j a8g a1y F19;have d8c:=d3d a1k T_D a8j a8g a1y F20;have d7h:=d3h a1k T_D a8j a8g a1y F21;have d4h:=d1z a1k T_D a8j a8g a1y F22;have d9p:=d3q T_D a8j a8g a1y a6b F23;have b9q:∀ d:DK,c0e l.prog w K mg base CX0 3 ((a6p a3h a1f a3j a3m a2h a3k) d) "on_row" ["self","row"] (c9v K (a6p a3h a1f a3j a3m a2h a3k) d):=fun d=>match d with | .over=>⟨T_D.cl .over,f18,_,⟨mt_Over_on_row,if_18,F18.kp⟩,(d9a).mono (by decide),b18⟩ | .quarter=>⟨T_D.cl .quarter,f19,_,⟨mt_Quarter_on_row,if_19,F19.kp⟩,(c7v).mono (by decide),b19⟩ | .back=>⟨T_D.cl .back,f20,_,⟨mt_Back_on_row,if_20,F20.kp⟩,(d8c).mono (by decide),b20⟩ | .both=>⟨T_D.cl .both,f21,_,⟨mt_Both_on_row,if_21,F21.kp⟩,(d7h).mono (by decide),b21⟩ | .wher=>⟨T_D.cl .wher,f22,_,⟨mt_Where_on_row,if_22,F22.kp⟩,(d4h).mono (by decide),b22⟩ | .swap=>⟨T_D.cl .swap,f23,_,⟨mt_Swap_on_row,if_23,F23.kp⟩,(d9p).mono (by decide),b23⟩
 have d4c:=d1t T_M b9q F24;have a7s:=d6t (P:=l.prog) (w:=w) (mg:=mg) (base:=base) T_D a6u F25;have d2r:=c7f (P:=l.prog) (w:=w) (mg:=mg) (base:=base) T_D F26;have a0y:CCal l.prog w K mg base CX0 1 "Deed" "__init__" ["self","word","undoer","at"] (b0b K (a6p a3h a1f a3j a3m a2h a3k)):=⟨d5t,f26,_,PySem.W.mg_of KX G v_Deed,⟨b0q,b0f,b0m,F26.kp⟩,d2r,b26⟩;have d0t:=c6z a0y F27;have d2s:=c7p a0y F28;have c2q:=c1s a0y F29;have c9t:=c7d a0y F30;have c9x:=c6q a0y F31;have c7m:=c4k a0y F32;have d7b:=d4n a0t a2d a3a a5p a6t b6s a8v b_str F33;have k_Swap:d6v l.prog w K mg base CX0 2 "Swap" ((a6p a3h a1f a3j a3m a2h a3k) .swap) ["self","j","k"] (b0k K (a6p a3h a1f a3j a3m a2h a3k)):=⟨f27,_,⟨c5z.mm,mt_Swap___init__,if_27,c5z.kc⟩,d0t,b27,PySem.W.mg_of KX G v_Swap⟩;have k_Over:d6v l.prog w K mg base CX0 2 "Over" ((a6p a3h a1f a3j a3m a2h a3k) .over) ["self","k"] (b0e K (a6p a3h a1f a3j a3m a2h a3k)):=⟨f28,_,⟨c6b.mm,mt_Over___init__,if_28,c6b.kc⟩,d2s,b28,PySem.W.mg_of KX G v_Over⟩;have c2p:d6v l.prog w K mg base CX0 2 "Quarter" ((a6p a3h a1f a3j a3m a2h a3k) .quarter) ["self","k"] (a7h K (a6p a3h a1f a3j a3m a2h a3k)):=⟨f29,_,⟨a9k.mm,mt_Quarter___init__,if_29,a9k.kc⟩,c2q,b29,PySem.W.mg_of KX G d1q⟩;have k_Back:d6v l.prog w K mg base CX0 2 "Back" ((a6p a3h a1f a3j a3m a2h a3k) .back) ["self","k"] (a9y K (a6p a3h a1f a3j a3m a2h a3k)):=⟨f30,_,⟨c6m.mm,mt_Back___init__,if_30,c6m.kc⟩,c9t,b30,PySem.W.mg_of KX G v_Back⟩;have k_Both:d6v l.prog w K mg base CX0 2 "Both" ((a6p a3h a1f a3j a3m a2h a3k) .both) ["self","k"] (b0h K (a6p a3h a1f a3j a3m a2h a3k)):=⟨f31,_,⟨c6f.mm,mt_Both___init__,if_31,c6f.kc⟩,c9x,b31,PySem.W.mg_of KX G v_Both⟩;have d6h:d6v l.prog w K mg base CX0 2 "Where" ((a6p a3h a1f a3j a3m a2h a3k) .wher) ["self","j","k"] (a9c K (a6p a3h a1f a3j a3m a2h a3k)):=⟨f32,_,⟨b8u.mm,mt_Where___init__,if_32,b8u.kc⟩,c7m,b32,PySem.W.mg_of KX G v_Where⟩;have b0v:=a2e d7b (F33.binds (by fail "b1")) F33.kp (PySem.W.mg_of KX G a33);have d2f:=c7s T_D k_Swap k_Over c2p k_Back k_Both d6h b0v b_min a3d F34;have c1x:∀ d:DK,c0e l.prog w K mg base CX0 1 ((a6p a3h a1f a3j a3m a2h a3k) d) "wires" ["self"] (d5d K (a6p a3h a1f a3j a3m a2h a3k) d):=fun d=>match d with | .over=>⟨T_D.cl .over,f25,_,⟨mt_Over_wires,if_25,F25.kp⟩,(a7s).mono (by decide),b25⟩ | .quarter=>⟨T_D.cl .quarter,f25,_,⟨mt_Quarter_wires,if_25,F25.kp⟩,(a7s).mono (by decide),b25⟩ | .back=>⟨T_D.cl .back,f25,_,⟨mt_Back_wires,if_25,F25.kp⟩,(a7s).mono (by decide),b25⟩ | .both=>⟨T_D.cl .both,f25,_,⟨mt_Both_wires,if_25,F25.kp⟩,(a7s).mono (by decide),b25⟩ | .wher=>⟨T_D.cl .wher,f25,_,⟨mt_Where_wires,if_25,F25.kp⟩,(a7s).mono (by decide),b25⟩ | .swap=>⟨T_D.cl .swap,f25,_,⟨mt_Swap_wires,if_25,F25.kp⟩,(a7s).mono (by decide),b25⟩
 have a7v:=a2e d2f (F34.binds (by fail "b1")) F34.kp (PySem.W.mg_of KX G a34);have o_deed_of:=ok_deed_of a3d c1x a7v b_max F35;have b9f:∀ d:MK,c0e l.prog w K mg base CX0 6 ((a5v a1p a1q) d) "follow" ["self","deed"] (d2v K (a6p a3h a1f a3j a3m a2h a3k) (a5v a1p a1q) a0h a0g a0j a0m d):=fun d=>match d with | .ex=>⟨T_M.cl .ex,f17,_,⟨mt_Exact_follow,if_17,F17.kp⟩,(d4f).mono (by decide),b17⟩ | .sg=>⟨T_M.cl .sg,f24,_,⟨mt_Signs_follow,if_24,F24.kp⟩,(d4c).mono (by decide),b24⟩
 have b1h:=a2e o_deed_of (F35.binds (by fail "b2")) F35.kp (PySem.W.mg_of KX G a35);have c5u:=d8z T_M a3a a3d b9f b1h F36;have o__law_mixed:=d8t (P:=l.prog) (w:=w) (mg:=mg) (base:=base)  F37;have a1d:=a2e o__law_mixed (F37.binds (by fail "b2")) F37.kp (PySem.W.mg_of KX G a37);have o__law_bad:=ok__law_bad a6t a1d F38;have o__law_words:=d9d a1d F39;have o__law_bits:=ok__law_bits a1d F40;have b2s:=a2e o__law_bits (F40.binds (by fail "b3")) F40.kp (PySem.W.mg_of KX G a40);have o__law_signs:=d7q a1d b2s F41;have b3g:=a2e o__law_words (F39.binds (by fail "b2")) F39.kp (PySem.W.mg_of KX G a39);have b2y:=a2e o__law_signs (F41.binds (by fail "b2")) F41.kp (PySem.W.mg_of KX G a41);have o__law_one:=ok__law_one a1d b3g b2y F42;have d3e:=d0d (P:=l.prog) (w:=w) (mg:=mg) (base:=base) a6t F43;have d7v:=d3g (P:=l.prog) (w:=w) (mg:=mg) (base:=base) T_M c9z F44;have o_Signs_rows:=d6c (P:=l.prog) (w:=w) (mg:=mg) (base:=base) T_M a6u F45;have b7u:=c6n (P:=l.prog) (w:=w) (mg:=mg) (base:=base) T_M F46;have o_ones:=ok_ones (P:=l.prog) (w:=w) (mg:=mg) (base:=base)  F47;have a9q:=a2e o_ones (F47.binds (by fail "b1")) F47.kp (PySem.W.mg_of KX G a47);have d8b:=d3n a8j a8g a9q F48;have a2q:=a2e d8b (F48.binds (by fail "b2")) F48.kp (PySem.W.mg_of KX G a48);have o_all_beside:=d7d b6s b5n a2q F49;have o_Span_rank:=ok_Span_rank (P:=l.prog) (w:=w) (mg:=mg) (base:=base) a6t T_N F50;have d3p:=c9k (P:=l.prog) (w:=w) (mg:=mg) (base:=base) T_N F51;have o_lowest_bit:=d7r (P:=l.prog) (w:=w) (mg:=mg) (base:=base)  F52;have a7f:∀ d:SK,c0e l.prog w K mg base CX0 1 ((b8c a6s) d) "left_of" ["self","number","which"] (c5r K (b8c a6s) d):=fun d=>match d with | .span=>⟨T_N.cl .span,f51,_,⟨mt_Span_left_of,if_51,F51.kp⟩,(d3p).mono (by decide),b51⟩
 have b3a:=a2e o_lowest_bit (F52.binds (by fail "b1")) F52.kp (PySem.W.mg_of KX G a52);have o_Span_take:=ok_Span_take T_N a7f b3a F53;have c8x:∀ d:SK,c0e l.prog w K mg base CX0 2 ((b8c a6s) d) "take" ["self","number"] (sp_N_take K (b8c a6s) d):=fun d=>match d with | .span=>⟨T_N.cl .span,f53,_,⟨mt_Span_take,if_53,F53.kp⟩,(o_Span_take).mono (by decide),b53⟩
 have d2p:=c6p T_N c8x F54;have c8j:∀ d:SK,c0e l.prog w K mg base CX0 1 ((b8c a6s) d) "rank" ["self"] (sp_N_rank K (b8c a6s) d):=fun d=>match d with | .span=>⟨T_N.cl .span,f50,_,⟨mt_Span_rank,if_50,F50.kp⟩,(o_Span_rank).mono (by decide),b50⟩
 have c9h:d6v l.prog w K mg base CX0 3 "Span" ((b8c a6s) .span) ["self","numbers"] (b0g K (b8c a6s)):=⟨f54,_,⟨c5s.mm,mt_Span___init__,if_54,c5s.kc⟩,d2p,b54,PySem.W.mg_of KX G v_Span⟩;have o_are_apart:=ok_are_apart a6t T_N c8j c9h F55;have o_fits:=ok_fits (P:=l.prog) (w:=w) (mg:=mg) (base:=base)  F56;have c_fits:=a2e o_fits (F56.binds (by fail "b2")) F56.kp (PySem.W.mg_of KX G a56);have d9f:=d3v a0t a2d a8j a8g a1y a6t b6s a8v a3q c_fits F57;have a5d:=a2e d9f (F57.binds (by fail "b2")) F57.kp (PySem.W.mg_of KX G a57);have o_is_row:=ok_is_row a3q a5d F58;have d3y:=d0a (P:=l.prog) (w:=w) (mg:=mg) (base:=base) a8j a8g F59;have b3c:=a2e o_all_beside (F49.binds (by fail "b1")) F49.kp (PySem.W.mg_of KX G a49);have b4z:=a2e o_are_apart (F55.binds (by fail "b1")) F55.kp (PySem.W.mg_of KX G a55);have c8t:=a2e o_is_row (F58.binds (by fail "b2")) F58.kp (PySem.W.mg_of KX G a58);have a2k:=a2e d3y (F59.binds (by fail "b2")) F59.kp (PySem.W.mg_of KX G a59);have d7a:=d4a a0t a6u a6t b6s b1t b3c b4z c8t a2k F60;have o_has_sign:=ok_has_sign a1k a2k F61;have o_letters_y:=ok_letters_y a8j a8g a9q F62;have a5w:=a2e o_letters_y (F62.binds (by fail "b1")) F62.kp (PySem.W.mg_of KX G a62);have o_times:=ok_times a8j a8g a1y a9q a2q b5y a5w F63;have a8z:=a2e o_has_sign (F61.binds (by fail "b3")) F61.kp (PySem.W.mg_of KX G a61);have b3p:=a2e o_times (F63.binds (by fail "b2")) F63.kp (PySem.W.mg_of KX G a63);have d3u:=c9p a8z b3p F64;have b0x:=a2e d7a (F60.binds (by fail "b2")) F60.kp (PySem.W.mg_of KX G a60);have a6w:=a2e d3u (F64.binds (by fail "b4")) F64.kp (PySem.W.mg_of KX G a64);have o_telling:=ok_telling b4g a6u a8z b0x a6w F65;have c3c:∀ d:Unit,c0e l.prog w K mg base CX0 1 ((a5v a1p a1q) .ex) "whole" ["self"] (d5u K (a5v a1p a1q) d):=fun _=>⟨T_M.cl .ex,f44,_,⟨mt_Exact_whole,if_44,F44.kp⟩,(d7v).mono (by decide),b44⟩;have c8g:∀ d:Unit,c0e l.prog w K mg base CX0 1 ((a5v a1p a1q) .sg) "rows" ["self"] (sp_S_rows K (a5v a1p a1q) d):=fun _=>⟨T_M.cl .sg,f45,_,⟨mt_Signs_rows,if_45,F45.kp⟩,(o_Signs_rows).mono (by decide),b45⟩;have b2k:∀ d:MK,c0e l.prog w K mg base CX0 1 ((a5v a1p a1q) d) "wires" ["self"] (d5b K (a5v a1p a1q) d):=fun d=>match d with | .ex=>⟨T_M.cl .ex,f46,_,⟨mt_Exact_wires,if_46,F46.kp⟩,(b7u).mono (by decide),b46⟩ | .sg=>⟨T_M.cl .sg,f46,_,⟨mt_Signs_wires,if_46,F46.kp⟩,(b7u).mono (by decide),b46⟩
 have c3r:=a2e o_telling (F65.binds (by fail "b2")) F65.kp (PySem.W.mg_of KX G a65);have o__law_now:=ok__law_now a0t T_M d7e c3c c8g b2k c3r F66;have o_added:=ok_added a1h b3d c9z F67;have o_acted_on:=ok_acted_on a6v a8j a8g a1y a9q a5w F68;have d9h:=a2e o_added (F67.binds (by fail "b2")) F67.kp (PySem.W.mg_of KX G a67);have b9p:=a2e o_acted_on (F68.binds (by fail "b2")) F68.kp (PySem.W.mg_of KX G a68);have o_half_by:=ok_half_by a8j a8g a1y d9h b9p F69;have a9v:=a2e o_half_by (F69.binds (by fail "b3")) F69.kp (PySem.W.mg_of KX G a69);have c2c:=c1v T_M a9v F70;have d2y:=c6w a7f F71;have o_widest:=ok_widest (P:=l.prog) (w:=w) (mg:=mg) (base:=base) a8j a8g b_max F72;have o_places:=ok_places b4g a1k F73;have o_product_of:=d6m b3p F74;have b2z:∀ d:SK,c0e l.prog w K mg base CX0 2 ((b8c a6s) d) "parts_of" ["self","number"] (c3w K (b8c a6s) d):=fun d=>match d with | .span=>⟨T_N.cl .span,f71,_,⟨mt_Span_parts_of,if_71,F71.kp⟩,(d2y).mono (by decide),b71⟩
 have c8r:=a2e o_widest (F72.binds (by fail "b1")) F72.kp (PySem.W.mg_of KX G a72);have c8y:=a2e o_places (F73.binds (by fail "b1")) F73.kp (PySem.W.mg_of KX G a73);have b2w:=a2e o_product_of (F74.binds (by fail "b1")) F74.kp (PySem.W.mg_of KX G a74);have o_made_of:=ok_made_of a1y T_N c9h a2k b2z c8r c8y b2w F75;have c3s:=a2e o_made_of (F75.binds (by fail "b2")) F75.kp (PySem.W.mg_of KX G a75);have c3p:=c0u T_M c3s F76;have d3j:=d0j T_M a9v F77;have d3t:=c9s T_M a8j a8g a2q b3p F78;have o_weight_of:=ok_weight_of a8j a8g a9q F79;have b5a:=a2e o_weight_of (F79.binds (by fail "b1")) F79.kp (PySem.W.mg_of KX G a79);have o_check_look:=d6x a1y a5d a3c b5a F80;have d6u:=d4m h_lam F81;have a9j:∀ d:MK,c0e l.prog w K mg base CX0 6 ((a5v a1p a1q) d) "sure_value" ["self","row"] (b8d K (a5v a1p a1q) d):=fun d=>match d with | .ex=>⟨T_M.cl .ex,f70,_,⟨mt_Exact_sure_value,if_70,F70.kp⟩,(c2c).mono (by decide),b70⟩ | .sg=>⟨T_M.cl .sg,f76,_,⟨mt_Signs_sure_value,if_76,F76.kp⟩,(c3p).mono (by decide),b76⟩
 have b9t:∀ d:MK,c0e l.prog w K mg base CX0 5 ((a5v a1p a1q) d) "settle" ["self","row","value"] (d1m K (a5v a1p a1q) d):=fun d=>match d with | .ex=>⟨T_M.cl .ex,f77,_,⟨mt_Exact_settle,if_77,F77.kp⟩,(d3j).mono (by decide),b77⟩ | .sg=>⟨T_M.cl .sg,f78,_,⟨mt_Signs_settle,if_78,F78.kp⟩,(d3t).mono (by decide),b78⟩
 have a6e:=a2e o_check_look (F80.binds (by fail "b2")) F80.kp (PySem.W.mg_of KX G a80);have b0y:=a2e d6u (F81.binds (by fail "b1")) F81.kp (PySem.W.mg_of KX G a81);have c0k:=d2w T_M a3q a3c a9j b9t a6e b0y F82;have o_is_look:=ok_is_look (P:=l.prog) (w:=w) (mg:=mg) (base:=base) a0t a6t a8v F83;have o_look_row:=ok_look_row (P:=l.prog) (w:=w) (mg:=mg) (base:=base)  F84;have b2g:=a2e o_is_look (F83.binds (by fail "b1")) F83.kp (PySem.W.mg_of KX G a83);have a8p:=a2e o_look_row (F84.binds (by fail "b1")) F84.kp (PySem.W.mg_of KX G a84);have o_check_step:=d6a a3a a3d b1h a3q a3c a6e b2g a8p F85;have d1w:∀ d:MK,c0e l.prog w K mg base (CXE l.prog w) 7 ((a5v a1p a1q) d) "do" ["self","words"] (sp_M_do K (a6p a3h a1f a3j a3m a2h a3k) (a5v a1p a1q) a0h a0g a0j a0m a1n a1v d):=fun d=>match d with | .ex=>⟨T_M.cl .ex,f36,_,⟨mt_Exact_do,if_36,F36.kp⟩,(c5u).mono (by decide),b36⟩ | .sg=>⟨T_M.cl .sg,f36,_,⟨mt_Signs_do,if_36,F36.kp⟩,(c5u).mono (by decide),b36⟩
 have c9b:∀ d:MK,c0e l.prog w K mg base (CXE l.prog w) 7 ((a5v a1p a1q) d) "look" ["self","row","draw"] (sp_M_look K (a5v a1p a1q) d):=fun d=>match d with | .ex=>⟨T_M.cl .ex,f82,_,⟨mt_Exact_look,if_82,k82⟩,(c0k).mono (by decide),b82⟩ | .sg=>⟨T_M.cl .sg,f82,_,⟨mt_Signs_look,if_82,k82⟩,(c0k).mono (by decide),b82⟩
 have b3h:=a2e o_check_step (F85.binds (by fail "b2")) F85.kp (PySem.W.mg_of KX G a85);have d4w:=ok_run_work a6u a3a a3d a3q b2k a3c b2g a8p d1w c9b b3h F86;have b9h:=a2e d4w b86 k86 (PySem.W.mg_of KX G a86);have a8e:=PySem.W.codeHd_of_K (c:=a1x) (P:=a0m) KB b2j;have d4k:=d2d a0t b_int bm a3a a3d a3q a3c b5b b9h a8e a4g a4v a4c a4h a4a a5c a4f a5b a4z a5n a3u a4b a4d a4w a3e a2w a2v a3b a2t F87;have d8h:d6v l.prog w K mg base (CXE l.prog w) 3 "Exact" ((a5v a1p a1q) .ex) ["self","n"] (a8s K (a5v a1p a1q) a4m):=⟨f2,_,⟨b8p.mm,mt_Exact___init__,if_2,b8p.kc⟩,c6s,b2,PySem.W.mg_of KX G d6s⟩;have d7k:d6v l.prog w K mg base (CXE l.prog w) 3 "Signs" ((a5v a1p a1q) .sg) ["self","n"] (a9a K (a5v a1p a1q) a4m):=⟨f3,_,⟨b8a.mm,mt_Signs___init__,if_3,b8a.kc⟩,c6r,b3,PySem.W.mg_of KX G v_Signs⟩;have b9s:=a2e o__law_bad (F38.binds (by fail "b2")) F38.kp (PySem.W.mg_of KX G a38);have b9r:=a2e o__law_one (F42.binds (by fail "b2")) F42.kp (PySem.W.mg_of KX G a42);have a5q:=a2e d3e (F43.binds (by fail "b2")) F43.kp (PySem.W.mg_of KX G a43);have b4t:=a2e o__law_now (F66.binds (by fail "b1")) F66.kp (PySem.W.mg_of KX G a66);have b1w:CalN l.prog w K mg base (CXE l.prog w) 8 "run_work" ["machine","work","draw"] (b5t K (a5v a1p a1q) a0h a0g a0j a0m a1n a1v a2f a1z):=⟨f86,_,d4w,bN86,k86,PySem.W.mg_of KX G a86⟩;have a9e:=a2e d4k b87 k87 (PySem.W.mg_of KX G a87);exact ok_law a0t T_M a6u a6t b6s a8v d1w d8h d7k b9s b9r a5q b4t b1w a9e F88
theorem walk {l:PySem.W.OpenLaw}{q:Program}{loose:List Str}{XP:(Str->Option Value)->Heap->Prop}{YP:World->Heap->Prop}{d:DefRec}{K:Params->PySem.W.Frag}(hn:l.most=some 63)(hdf:d.params.defaults=[])
  (hY:∀ (w:World) (h:Heap),YP w h->(K w.params).In h/\PySem.W.TabsAt [(a1t,a0h),(a1j,a0g),(a1s,a0j),(a1x,a0m)] h) (hnt:∀ w:World,PySem.W.noTabs (K w.params) = true) (hdi:[a0h,a0g,a0j,a0m].Nodup)
  (F:∀ (w:World) (mg:Str->Option Value) (fa:Addr) (h:Heap),(K w.params).In h->h.Ns mainGlobals mg->mg d.name=some (.ref fa)->
   ∃ fd:FuncData,(∀ (s:Shared) (u:Value),BindsTo s fd ⟨[u],[]⟩ [("_law_script",u)])/\∀ base:Heap,(K w.params).In base->base.Ns mainGlobals mg->BltM mg base->a2s l.prog w (K w.params) mg base CX0 10 fa fd ["_law_script"] (sp_law (K w.params) a0h a0g a0j a0m)) :
  PySem.W.WalkO q loose XP YP l.row.toRowW d [] (fun f vs=>PySem.call f vs):=
 L2.walk_ofT (n:=63) (k:=10) (x:="_law_script") (CX:=fun _=>CX0) (sp:=fun w=>sp_law (K w.params) a0h a0g a0j a0m) (tabs:=[(a1t,a0h),(a1j,a0g),(a1s,a0j),(a1x,a0m)]) hn (by decide) hdf ⟨rfl,by decide,by decide⟩ hY hnt F (fun _ _ a ns hl hS hT=>⟨a,ns,rfl,hS,hl,⟨a8h.start (hT (a1t,a0h) (by simp)),a8h.start (hT (a1j,a0g) (by simp)),a8h.start (hT (a1s,a0j) (by simp)),a8h.start (hT (a1x,a0m) (by simp)),hdi⟩,fun _=>rfl⟩) fun _ _ _ _ _ z=>z
end Tw
open PySem PySem.W PyProof.Rows
local macro_rules | `(tactic| fail "ci")=>`(tactic| (show _=_; k_is))
local macro_rules | `(tactic| fail "ck")=>`(tactic| (show _=_; first | k_is | k_exc | kernel_rfl))
local macro_rules | `(tactic| fail "cs")=>`(tactic| (constructor <;> first | k_is | k_exc | kernel_rfl))
local macro_rules | `(tactic| fail "fa")=>`(tactic| (refine' ⟨_,L2.fun_mk ?l9 ?q9 ?k9⟩; (case l9=>k_is); (case q9=>first | k_is | k_exc | kernel_rfl); (case k9=>first | k_is | k_exc | kernel_rfl)))
set_option maxRecDepth 100000 in
set_option maxHeartbeats 0 in
theorem PySem.Challenge.cw_twinwires_k39_works_looked_through_ahead_holds : PySem.Challenge.rw_twinwires_k39_works_looked_through_ahead.Holds := by
 w_on; o_law
 refine Tw.holds_once Tw.run0 Tw.run1 (by kernel_rfl) (fun _=>by kernel_rfl) (by kernel_rfl) (by rfl) (by rfl) (by rfl) (by rfl) (by first | assumption | decide +kernel) (by decide +kernel) ⟨rfl,rfl,rfl,rfl,rfl,by decide +kernel⟩ ?hw ?hc
 (case hw=>w_witness2)
 k_fill
 refine Tw.walk (l:=PySem.Challenge.rw_twinwires_k39_works_looked_through_ahead) (a1t:=315) (a0h:=311) (a1j:=447) (a0g:=443) (a1s:=480) (a0j:=476) (a1x:=864) (a0m:=860) rfl rfl (fun w h Y=>⟨PySem.W.km_in_of Y,(List.forall_mem_cons.mpr ⟨⟨PySem.W.codeHd_of_K (c:=315) (P:=311) (PySem.W.km_in_of Y) (by kernel_rfl),PySem.W.km_tabs_of Y 311 (by decide)⟩,(List.forall_mem_cons.mpr ⟨⟨PySem.W.codeHd_of_K (c:=447) (P:=443) (PySem.W.km_in_of Y) (by kernel_rfl),PySem.W.km_tabs_of Y 443 (by decide)⟩,(List.forall_mem_cons.mpr ⟨⟨PySem.W.codeHd_of_K (c:=480) (P:=476) (PySem.W.km_in_of Y) (by kernel_rfl),PySem.W.km_tabs_of Y 476 (by decide)⟩,(List.forall_mem_cons.mpr ⟨⟨PySem.W.codeHd_of_K (c:=864) (P:=860) (PySem.W.km_in_of Y) (by kernel_rfl),PySem.W.km_tabs_of Y 860 (by decide)⟩,(fun _ h=>nomatch h)⟩)⟩)⟩)⟩)⟩) (fun w=>by kernel_rfl) (by decide) ?F
 case F=>
  intro w mg fa h KX G hmg;refine' Tw.all_mk (a1t:=315) (a0h:=311) (a1j:=447) (a0g:=443) (a1s:=480) (a0j:=476) (a1x:=864) (a0m:=860) KX G hmg ?v_Over ?d1q ?v_Back ?v_Both ?v_Where ?v_Swap ?d6s ?v_Signs ?v_Span ?d1v ?v_Deed ?mt_Machine___init__ ?if_1 ?mt_Deed___init__ ?if_26 ?mt_Over_on_whole ?if_8 ?mt_Quarter_on_whole ?if_11 ?mt_Back_on_whole ?if_12 ?mt_Both_on_whole ?if_14 ?mt_Where_on_whole ?if_15 ?mt_Swap_on_whole ?if_16 ?mt_Over_on_row ?if_18 ?mt_Quarter_on_row ?if_19 ?mt_Back_on_row ?if_20 ?mt_Both_on_row ?if_21 ?mt_Where_on_row ?if_22 ?mt_Swap_on_row ?if_23 ?mt_Swap___init__ ?if_27 ?mt_Over___init__ ?if_28 ?mt_Quarter___init__ ?if_29 ?mt_Back___init__ ?if_30 ?mt_Both___init__ ?if_31 ?mt_Where___init__ ?if_32 ?mt_Over_wires ?if_25 ?mt_Quarter_wires ?mt_Back_wires ?mt_Both_wires ?mt_Where_wires ?mt_Swap_wires ?mt_Exact_follow ?if_17 ?mt_Signs_follow ?if_24 ?mt_Span_left_of ?if_51 ?mt_Span_take ?if_53 ?mt_Span_rank ?if_50 ?mt_Span___init__ ?if_54 ?mt_Exact_whole ?if_44 ?mt_Signs_rows ?if_45 ?mt_Exact_wires ?if_46 ?mt_Signs_wires ?mt_Span_parts_of ?if_71 ?mt_Exact_sure_value ?if_70 ?mt_Signs_sure_value ?if_76 ?mt_Exact_settle ?if_77 ?mt_Signs_settle ?if_78 ?mt_Exact_do ?if_36 ?mt_Signs_do ?mt_Exact_look ?if_82 ?mt_Signs_look ?mt_Exact___init__ ?if_2 ?mt_Signs___init__ ?if_3 ?a0 ?h0 ?h1 ?h2 ?h3 ?a4 ?h4 ?a5 ?h5 ?a6 ?h6 ?a7 ?h7 ?l8 ?q8 ?b0p ?k8 ?a9 ?h9 ?a10 ?h10 ?h11 ?h12 ?a13 ?h13 ?h14 ?l15 ?q15 ?a8u ?k15 ?l16 ?q16 ?a9x ?k16 ?h17 ?h18 ?h19 ?h20 ?h21 ?h22 ?h23 ?h24 ?h25 ?h26 ?h27 ?h28 ?h29 ?h30 ?h31 ?h32 ?a33 ?h33 ?a34 ?h34 ?a35 ?h35 ?h36 ?a37 ?h37 ?a38 ?h38 ?a39 ?h39 ?a40 ?h40 ?a41 ?h41 ?a42 ?h42 ?a43 ?h43 ?h44 ?h45 ?h46 ?a47 ?h47 ?a48 ?h48 ?a49 ?h49 ?h50 ?h51 ?a52 ?h52 ?h53 ?h54 ?a55 ?h55 ?a56 ?h56 ?a57 ?h57 ?a58 ?h58 ?a59 ?h59 ?a60 ?h60 ?a61 ?h61 ?a62 ?h62 ?a63 ?h63 ?a64 ?h64 ?a65 ?h65 ?a66 ?h66 ?a67 ?h67 ?a68 ?h68 ?a69 ?h69 ?h70 ?h71 ?a72 ?h72 ?a73 ?h73 ?a74 ?h74 ?a75 ?h75 ?h76 ?h77 ?h78 ?a79 ?h79 ?a80 ?h80 ?a81 ?h81 ?l82 ?dt82 ?q82 ?k82 ?a83 ?h83 ?a84 ?h84 ?a85 ?h85 ?a86 ?l86 ?dt86 ?q86 ?k86 ?a87 ?l87 ?q87 ?b2j ?k87 ?a88 ?l88 ?q88 ?k88 ?a7u ?b7y ?v_XS ?v_ZS ?v_MINUS ?b4e ?b2p ?d0q ?c9e ?d9j ?d9k ?d6w ?d8n ?v_NoRow ?x_NoRow ?d1b ?d2h ?c1f ?c0n ?d6q ?d9c ?c1e ?c0s ?a4g ?a4v ?a4c ?a4h ?a4a ?a5c ?a4f ?a5b ?a4z ?a5n ?a3u ?a4b ?a4d ?a4w ?a3e ?a2w ?a2v ?a3b ?a2t ?c6b ?b6w ?b3y ?c4s ?a9k ?b2n ?a8x ?b6b ?c6m ?b7p ?b4j ?c4d ?c6f ?b8j ?b4f ?c5d ?b8u ?b6c ?b1p ?c1a ?c5z ?b7a ?b4b ?c4q ?b8p ?b0n ?c4r ?b5q ?c9c ?d0z ?d2x ?d1u ?b4h ?b3j ?b8a ?b0d ?c4g ?b6a ?d2m ?d2a ?d0p ?d1g ?b3v ?b4a ?c5s ?b6y ?b5d ?a7k ?a7n ?a7m ?b0q ?b0f ?b0m ?b6t ?z_int ?z_bool ?z_range ?z_list ?z_len ?z_all ?z_tuple ?z_str ?z_min ?z_max ?z_dict ?c1g
  (case v_Over | d1q | v_Back | v_Both | v_Where | v_Swap | d6s | v_Signs | v_Span | d1v | v_Deed | a0 | a4 | a5 | a6 | a7 | a9 | a10 | a13 | a33 | a34 | a35 | a37 | a38 | a39 | a40 | a41 | a42 | a43 | a47 | a48 | a49 | a52 | a55 | a56 | a57 | a58 | a59 | a60 | a61 | a62 | a63 | a64 | a65 | a66 | a67 | a68 | a69 | a72 | a73 | a74 | a75 | a79 | a80 | a81 | a83 | a84 | a85 | a86 | a87 | a88 | a7u | b7y | v_XS | v_ZS | v_MINUS | b4e | d0q | d9j | d6w | v_NoRow | d1b | c1f | d6q | c1e | b6t | z_int | z_bool | z_range | z_list | z_len | z_all | z_tuple | z_str | z_min | z_max | z_dict | c1g=>fail "ci")
  (case mt_Machine___init__ | if_1 | mt_Deed___init__ | if_26 | mt_Over_on_whole | if_8 | mt_Quarter_on_whole | if_11 | mt_Back_on_whole | if_12 | mt_Both_on_whole | if_14 | mt_Where_on_whole | if_15 | mt_Swap_on_whole | if_16 | mt_Over_on_row | if_18 | mt_Quarter_on_row | if_19 | mt_Back_on_row | if_20 | mt_Both_on_row | if_21 | mt_Where_on_row | if_22 | mt_Swap_on_row | if_23 | mt_Swap___init__ | if_27 | mt_Over___init__ | if_28 | mt_Quarter___init__ | if_29 | mt_Back___init__ | if_30 | mt_Both___init__ | if_31 | mt_Where___init__ | if_32 | mt_Over_wires | if_25 | mt_Quarter_wires | mt_Back_wires | mt_Both_wires | mt_Where_wires | mt_Swap_wires | mt_Exact_follow | if_17 | mt_Signs_follow | if_24 | mt_Span_left_of | if_51 | mt_Span_take | if_53 | mt_Span_rank | if_50 | mt_Span___init__ | if_54 | mt_Exact_whole | if_44 | mt_Signs_rows | if_45 | mt_Exact_wires | if_46 | mt_Signs_wires | mt_Span_parts_of | if_71 | mt_Exact_sure_value | if_70 | mt_Signs_sure_value | if_76 | mt_Exact_settle | if_77 | mt_Signs_settle | if_78 | mt_Exact_do | if_36 | mt_Signs_do | mt_Exact_look | if_82 | mt_Signs_look | mt_Exact___init__ | if_2 | mt_Signs___init__ | if_3=>fail "ck")
  (case h0 | h1 | h2 | h3 | h4 | h5 | h6 | h7 | h9 | h10 | h11 | h12 | h13 | h14 | h17 | h18 | h19 | h20 | h21 | h22 | h23 | h24 | h25 | h26 | h27 | h28 | h29 | h30 | h31 | h32 | h33 | h34 | h35 | h36 | h37 | h38 | h39 | h40 | h41 | h42 | h43 | h44 | h45 | h46 | h47 | h48 | h49 | h50 | h51 | h52 | h53 | h54 | h55 | h56 | h57 | h58 | h59 | h60 | h61 | h62 | h63 | h64 | h65 | h66 | h67 | h68 | h69 | h70 | h71 | h72 | h73 | h74 | h75 | h76 | h77 | h78 | h79 | h80 | h81 | h83 | h84 | h85=>fail "fa")
  (case l8 | q8=>fail "ci")
  (case b0p=>fail "ck")
  (case k8 | l15 | q15=>fail "ci")
  (case a8u=>fail "ck")
  (case k15 | l16 | q16=>fail "ci")
  (case a9x=>fail "ck")
  (case k16 | l82 | dt82 | q82 | k82 | l86 | dt86 | q86 | k86 | l87 | q87=>fail "ci")
  (case b2j=>fail "ck")
  (case k87 | l88 | q88 | k88=>fail "ci")
  (case b2p=>fail "ck")
  (case c9e | d9k | d8n | x_NoRow | d2h | c0n | d9c | c0s=>fail "cs")
  (case a4g | a4v | a4c | a4h | a4a | a5c | a4f | a5b | a4z | a5n | a3u | a4b | a4d | a4w | a3e | a2w | a2v | a3b | a2t=>fail "ck")
  (case c6b=>fail "cs")
  (case b6w | b3y | c4s=>fail "ck")
  (case a9k=>fail "cs")
  (case b2n | a8x | b6b=>fail "ck")
  (case c6m=>fail "cs")
  (case b7p | b4j | c4d=>fail "ck")
  (case c6f=>fail "cs")
  (case b8j | b4f | c5d=>fail "ck")
  (case b8u=>fail "cs")
  (case b6c | b1p | c1a=>fail "ck")
  (case c5z=>fail "cs")
  (case b7a | b4b | c4q=>fail "ck")
  (case b8p=>fail "cs")
  (case b0n | c4r | b5q | c9c | d0z | d2x | d1u | b4h | b3j=>fail "ck")
  (case b8a=>fail "cs")
  (case b0d | c4g | b6a | d2m | d2a | d0p | d1g | b3v | b4a=>fail "ck")
  (case c5s=>fail "cs")
  (case b6y | b5d | a7k | a7n | a7m | b0q | b0f | b0m=>fail "ck")
