import PyProof.Rows.All
import Wide.All
import OpenK.AllK
import Wide.FinOn
import Lean
import PyProof.EqAt
import PyProof.EqKinds
import PyProof.TupleCall
import Open.Pieces
import KE.KRevIter
import PyProof.ListStr
import KE.KStrOpen
import PyProof.Rows.StrFirst
import PyProof.Rows.StrMul
import PyProof.EnumMake
import PyProof.IsRules
import PyProof.AutoListH
import PyProof.ConsumeWalk
import PyProof.Rows.SortWalk
import PyProof.CollectIter
import PyProof.ListIndex
import PyProof.Dict
import KE.KPairComp
import PyProof.DictValues
import PyProof.DictWalks
import PyProof.Rows.SumAny
import PyProof.AttrMissHeap
import KE.KDictList
import PyProof.Rows.TupDisplay
import PyProof.FactsAll.dict_3
import PyProof.Rows.EqDataRows
import PyProof.P3Eq
import KE.KDictOf
import KE.KLam
import PyProof.Rows.SortRev
import PyProof.Rows.CallKwBuiltin
import PySem.Challenge.RW_twinwires_k92_whole_what_went_wrong_is_p
open PySem.W renaming Frag→A0a,isFn→A1b,mg_of→A2b,mg_none_of→A2f,findIn→A2n,kitOne→A2p,keepIn→A3f,kia_one→A3h,boot_heap→A3p,emptyDict→A3r,fnOf→A3s,instObj→A4s,callWith_K→A4w,codeIn→A5r,ke_shaped_ints→A5s,methodCall_KW→A6a,nsIn→A6g,specialIn→A6h,plainGet→A6t,hasDictIn→A7m,plainGet_of→A8n,lookIn→A9h,methodObj→A9p,plainOver→A9q,cellsFrom_some→B0j,takerIn→B0p,makesIn→B0q,OpenLaw→B0s,readsIn→B0v,findCls→B0w,mroIn→B1m,kt_text_in→B1p,kitx_list→B1x,kitx_dict→B1y
open List renaming length_map→A0b,mem_cons_self→A0d,mem_cons_of_mem→A0e,map_append→A0f,mem_singleton→A0h,length_append→A0j,mem_append→A0p,length_take→A0q,mem_map→A0r,take_length→A0t,mem_append_right→A0v,size_toArray→A0z,length_cons→A1c,lookup_cons→A1g,mem_cons→A1n,replicate→A1u,mem_of_mem_take→A1x,map_cons→A2a,mem_append_left→A2g,range→A3a,append_nil→A3d,length_singleton→A3e,map_map→A3u,length_range→A3w,map_singleton→A3y,pairwise_cons→A3z,lookup→A4d,length_replicate→A4e,all_eq_true→A4h,not_mem_nil→A4j,replicate_succ'→A5b,nodup_cons→A5g,all_cons→A5m,map_congr_left→A5n,getElem_mem→A5p,take_append_drop→A5v,reverse_cons→A6k,append_assoc→A6m,pairwise_append→A6n,mem_range→A6q,pairwise_singleton→A7g,range_succ→A7h,perm_append_comm→A7x,length_drop→A7z,map_reverse→A8a,cons_append→A8c,reverse_reverse→A8e,filterMap_cons→A8m,length_nil→A8r,mem_filter→A8s,map_nil→A9b,take_add_one→A9u,foldl_append→A9v,nodup_append→A9y,mem_flatMap→B0h,drop_of_length_le→B0m,of_mem_zip→B0r,take_zero→B1d,any_cons→B1n,take_nil→B1q,map_take→B1s
open Nat renaming lt_of_lt_of_le→A0c,pow_le_pow_right→A0g,le_refl→A0k,testBit_xor→A0m,testBit_lt_two_pow→A0u,and_comm→A0w,two_pow_pos→A0x,eq_of_testBit_eq→A1h,testBit_and→A1k,xor_assoc→A1m,xor_lt_two_pow→A1p,xor_self→A1q,xor_zero→A1t,zero_le→A1v,pow_lt_pow_right→A1w,zero_testBit→A1y,le_trans→A1z,mod_two_eq_zero_or_one→A2c,zero_xor→A2d,testBit_zero→A2j,lt_of_le_of_lt→A2m,testBit_two_pow→A2q,ne_of_lt→A2r,pow_succ→A2s,lt_or_ge→A2t,testBit_div_two→A2w,lt_irrefl→A2z,or_lt_two_pow→A3g,shiftLeft_eq→A3n,le_of_lt→A3q,testBit_shiftLeft→A3v,lt_succ_self→A4a,and_one_is_mod→A4f,testBit_two_pow_self→A4g,testBit_mod_two_pow→A4n,testBit_or→A4q,zero_mul→A4r,and_le_left→A4u,xor_comm→A4y,div_lt_iff_lt_mul→A4z,testBit_succ→A5q,le_succ→A5x,pow_add→A6c,or_comm→A6d,lt_succ_of_lt→A6j,shiftRight_eq_div_pow→A6r,lt_two_pow_self→A6v,strongRecOn→A7d,mul_div_cancel_left→A7f,one_mul→A7t,mod_lt→A7u,and_two_pow_sub_one_eq_mod→A7w,and_zero→A7y,mod_eq_of_lt→A8b,exists_testBit_of_ne_zero→A8d,mul_lt_mul_of_pos_right→A8q,mod_mul_right_div_self→A8w,zero_and→A9e,or_assoc→A9f,ge_two_pow_of_testBit→A9m,testBit_two_pow_of_ne→A9n,pow_le_pow_iff_right→A9w,lt_succ_iff_lt_or_eq→A9x,le_add_right→B0g,le_of_ble_eq_true→B0n,le_antisymm→B0u,mul_comm→B0y,not_lt_zero→B0z,le_of_eq→B2b,sub_zero→B2f
open PySem renaming wpAny_bind→A0n,wpAny_pure→A1e,wpAny_mono→A2u,boot_len→A3k,wpAny_truthy_bool→A5c,wpAny_passesOwn→A5d,wpAny_newObj_type→A5f,mem_of_lookup→A5k,wpAny_Call_Name_kw→A5t,wpAny_execs_nil→A5w,wpAny_pyIter_enum→A7r,wpAny_field→A8p,wpAny_pyIter_tuple→A8x,codeAny_mono→A8z,wpAny_sequenceKey→A9s,wpAny_holding→B0b,wpAny_execs_cons→B0d,wpAny_call_entry→B0e,wpAny_listPart→B1c,call→B1u,Within→B2a
open Option.some renaming inj→A0s
open PySem.Heap renaming lt_size→A0y,size_push→A4p,SameBut→A5h
open Bool renaming false_ne_true→A1a,and_eq_true→A2h,and_false→A2v,xor_false→A3j,and_true→A3m,toNat_false→A4k,toNat_true→A4t,false_eq_true→A4x,eq_iff_iff→A7c,or_eq_false_iff→A8f,true_and→A8j,false_and→A9g,xor_comm→B0c,not_false→B1e,not_true→B1t
open PySem.PassesOwn renaming never→A1d
open PySem.Builtin.Int renaming intBits→A1f
open PySem.F renaming plainAttrs_list→A1j,slot_list_append→A1r,type_list_append→A1s,slot_int_bit_length→A6e,type_int_bit_length→A6f,slot_list_extend→A6z,type_list_extend→A7a,plainAttrs_int→A7k,slot_dict_setdefault→A8k,args_tuple_add_2→A9r,entry_tuple_add→B0a,slot_tuple_add→B0k
open PySem.Builtin renaming bitAnd→A2e,bitXor→A3x,bitNot→A6s,bitOr→A8g
open Option renaming map_some→A2k,getD_some→A6u,getD_none→B0f,isSome_some→B1r
open PySem.PyData renaming eqvAll→A2x,eqv→A4v,depthAll→A7e,canLayAll0→A7s,canLay0→A9k,int→B1z,depth→B2e
open PySem.NameKind renaming free→A2y,cell→A8h
open PySem.Value renaming ref→A3b,int→A7b,bool→B1a,str→B1h,none→B1w,float→B2h
open PyProof.Rows renaming callWith_type1→A3c,slot_tuple_getitem→A7n
open Int renaming toNat_natCast→A3t,emod_lt_of_pos→A5u,emod_nonneg→A5y,fdiv_eq_ediv_of_nonneg→A8u,natAbs_natCast→A9c
open Array renaming length_toList→A4b
open False renaming elim→A4c
open Ne renaming «symm»→A4m
open PySem.Builtin.Slice renaming slicePlaces→A5a,sliceAdjust→A6p,sliceApplied→A8v
open PySem.Builtin.Tuple renaming tupleExact→A5e
open PySem.Builtin.Str renaming occurrences→A5j
open ForInStep renaming yield→A5z
open PyProof.Rows.KTD renaming datumAt→A6b
open True renaming «intro»→A6w
open PySem.Str renaming ofString→A6x
open PySem.Builtin.List renaming listTooLong→A6y,listAllItems→A9j,listSameRef→A9t
open PySem.Calls renaming callWith_builtin→A7j,Name_function_global→A8t,spliced_cons→A8y,evalArgs_plain→B1b
open List.Pairwise renaming nil→A7p
open PySem.WalksT renaming enumerateD→A7q
open PySem.SeqAt renaming shaped→A7v
open PySem.W.KFB renaming if_not→A9a
open PyProof.Rows.KTD.Dat renaming flat→A9d
open Prod.mk renaming injEq→A9z
open Nat.succ renaming inj→B0t
open List.cons renaming injEq→B0x
open Sum renaming inl→B1f,inr→B1v
open Function renaming comp_apply→B1g
open PySem.SeqAt.EqAt renaming int_str→B1j,str_int→B1k
open PySem.Around renaming under→B2c
open PySem.Code renaming isFrame→B2d
open PySem.IsL renaming isList→B2g
set_option maxRecDepth 100000
namespace Tw
open PySem PySem.Calls PySem.W PyProof.Rows
def runG (thr ok:Thread->Bool)(go:SharedT->Thread->Option (SharedT×Thread)):Nat->SharedT->Thread->Option SharedT
 | 0,_,_=>none
 | m+1,a,x=>match thr x with
  | true=>some a
  | false=>match ok x with
   | false=>none
   | true=>match go a x with
    | some (b,y)=>(match Nat.beq b.toks b.toks with
     | true=>runG thr ok go m b y
     | false=>none)
    | none=>none
theorem runG_top {tb:String->Option Builtin}{p:Program}{w:World}{i:Nat}{an:Option Value}:∀(m:Nat) (a b:SharedT) (x:Thread),
  runG through (stepOk i an) (stepT (denote tb) p w) m a x=some b->topRun tb p w i an m a.abs x=some b.abs
 | 0,_,_,_,h=>by cases h
 | m+1,a,b,x,h=>by
  unfold runG at h;unfold topRun
  cases e1:through x with
  | true=>rw[e1] at h;cases h;rfl
  | false=>
   rw[e1] at h
   cases e2:stepOk i an x with
   | false=>rw[e2] at h;cases h
   | true=>
    rw[e2] at h
    cases e3:stepT (denote tb) p w a x with
    | none=>rw[e3] at h;cases h
    | some r=>
     obtain⟨c,y⟩:=r;rw[e3] at h;rw[stepT_spec e3];dsimp only at h ⊢
     cases e4:Nat.beq c.toks c.toks with
     | false=>rw[e4] at h;cases h
     | true=>rw[e4] at h;exact runG_top m c b y h
def runT (p:Program)(w:World)(i:Nat)(an:Option Value)(m:Nat)(a:SharedT):Option SharedT:=runG through (stepOk i an) (stepT (denote treeTable) p w) m a (topStub p)
noncomputable def bootT (P:Params):BT:=((A3p P).objs.toList.foldl (fun (x:BT×Nat) o=>(x.1.ins x.2 o,x.2+1)) (BT.nil,0)).1
noncomputable def c9e (n:Nat)(w:World)(os:OsState):SharedT:=⟨bootT w.params,n,(A3p w.params).life,Array.mk [],boot_drawn,boot_toks,os⟩
noncomputable def d6w (p q:Program)(lo:List Str)(Xt:Shared->Bool)(bh:Heap)(s:Shared):=
 ((staticsOk (importedModules p.main.body) bh s.heap&&namesBound p s.heap&&gensDone s&&laidKept bh s.heap),openSeen q lo (importedModules p.main.body) Xt true s)
theorem left_once {p q:Program}{lo:List Str}{Xt:Shared->Bool}{β:Type}{Yf:Shared->β}{Ya:World->β}{N M n:Nat}{an:Option Value}(row:String)
  (e:opening p=plainProg p.main.scope.names) (h6:Nat.ble 600 N=true) (fe:∀s,fenceModules? p s=some s)
  (tr:∀P,absHeap (bootT P) n (A3p P).life=A3p P)
  (sz:∀P,((A3p P).isNs mainGlobals,(A3p P).objs.size,(A3p P).nsMap mainGlobals "__annotations__")=(true,n,an))
  (le:Nat.ble M N=true)
  (run0:∀(w:World) (os:OsState),(runT p (w.withFollow row false) n an M (c9e n (w.withFollow row false) os)).map (fun s=>(d6w p q lo Xt (A3p (w.withFollow row false).params) s.abs,Yf s.abs))=some ((true,openGood q lo),Ya (w.withFollow row false)))
  (run1:∀(w:World) (os:OsState),(runT p (w.withFollow row true) n an M (c9e n (w.withFollow row true) os)).map (fun s=>(d6w p q lo Xt (A3p (w.withFollow row true).params) s.abs,Yf s.abs))=some ((true,openGood q lo),Ya (w.withFollow row true))) :
  LeftO p q lo Xt Yf Ya N true:=byRow2 row (P:=fun w=>(openEnds treeTable p w N).map (fun s=>(openSeen q lo (importedModules p.main.body) Xt true s,Yf s))=some (openGood q lo,Ya w)) (fun w=>one _ (run0 w)) (fun w=>one _ (run1 w))
 where
 one (w:World) (run:∀os:OsState,(runT p w n an M (c9e n w os)).map (fun s=>(d6w p q lo Xt (A3p w.params) s.abs,Yf s.abs))=some ((true,openGood q lo),Ya w)) :
   (openEnds treeTable p w N).map (fun s=>(openSeen q lo (importedModules p.main.body) Xt true s,Yf s))=some (openGood q lo,Ya w):=by
  obtain⟨⟨h,gs,d,k,os⟩,a1,a2⟩:=Option.map_eq_some_iff.mp (boot_open e h6 fe w);simp only[A9z] at a2;obtain⟨rfl,rfl,rfl,rfl⟩:=a2;obtain⟨b,b1,b2⟩:=Option.map_eq_some_iff.mp (run os);simp only[A9z,d6w] at b2;obtain⟨⟨l1,l2⟩,l3⟩:=b2
  have r:topRun treeTable p w n an M ⟨A3p w.params,Array.mk [],boot_drawn,boot_toks,os⟩ (topStub p)=some b.abs:=by
   have:=runG_top _ _ _ _ b1;rw[<- tr w.params];exact this
  have r:=topRun_mono (N-M) _ _ _ _ r;rw[show M+(N-M)=N by have:=B0n le;omega] at r;have z:=sz w.params;simp only[A9z] at z;obtain⟨z1,z2,z3⟩:=z
  have t:topFrom treeTable p w N ⟨A3p w.params,Array.mk [],boot_drawn,boot_toks,os⟩=some b.abs:=by
   unfold topFrom;dsimp only;rw[z1,z2,z3,r];show (match staticsOk (importedModules p.main.body) (A3p w.params) b.abs.heap&&namesBound p b.abs.heap&&gensDone b.abs&&laidKept (A3p w.params) b.abs.heap with|true=>some b.abs|false=>none)=_;rw[l1]
  unfold openEnds;rw[a1];show (topFrom treeTable p w N _).map _=_;rw[t];exact congrArg some (Prod.ext l2 l3)
theorem runT_self:Tw.runT=Tw.runT:=rfl
theorem lookT_self:@Tw.d6w= @Tw.d6w:=rfl
end Tw
lay_quick Tw.runT Tw.d6w
name_quick runQ for Tw.runT by Tw.runT_self
name_quick lookQ for Tw.d6w by Tw.lookT_self
namespace Tw
open PySem PySem.Calls PySem.W PyProof.Rows
theorem boot_tree (P:Params):absHeap (bootT P) 11 (A3p P).life=A3p P:=by kernel_rfl
theorem boot_size (P:Params):((A3p P).isNs mainGlobals,(A3p P).objs.size,(A3p P).nsMap mainGlobals "__annotations__")=(true,11,some (.ref 6)):=by kernel_rfl
def RunOk (r:OpenRow)(q:Program)(lo:List Str)(lv:List (Str×WData))(H:Hook)(N:Nat)(row:String)(b:Bool):Prop:=
 ∀(w:World) (os:OsState),(Fast.runQ r.prog (w.withFollow row b) 11 (some (.ref 6)) N (c9e 11 (w.withFollow row b) os)).map (fun s=>(Fast.lookQ r.prog q lo (fun s=>xlAt q lv s&&recOk r.records s) (A3p (w.withFollow row b).params) s.abs,H.obs s.abs))=some ((true,openGood q lo),H.val (w.withFollow row b))
theorem holds_once {r:OpenRow}{q:Program}{lo:List Str}{lv:List (Str×WData)}{d:DefRec}{kwd:List (Str×Expr)}{N:Nat}{H:Hook}{row:String}(run0:RunOk r q lo lv H N row false)(run1:RunOk r q lo lv H N row true)
  (e:opening r.prog=plainProg r.prog.main.scope.names) (fe:∀s,fenceModules? r.prog s=some s) (h6:Nat.ble 600 N=true)
  (hd:defOf q r.name=some (d,kwd)) (hp:r.prog.theDef r.name=some (d.params,d.body,d.scope)) (hk:kwWritten? d.params.kwonlyargs d.params.kw_defaults=some kwd) (hwr:(!r.writes||r.records.isEmpty)=true)
  (k1:r.wellSaid=true) (ok:(chainsOk q&&opensWell r.prog&&(frees r.toRowW&&r.within.isEmpty))=true) (hb:r.prog.bare) (hw:r.toRowW.promised) (hc:WalkO q lo (XL q lv) H.says r.toRowW d kwd fun f vs=>B1u f vs):r.Holds:=
 holds_open (Xt:=fun s=>xlAt q lv s&&recOk r.records s) (N:=N)
  (left_once (M:=N) row e h6 fe boot_tree boot_size (Nat.ble_eq.mpr (A0k N)) (by rw[Fast.runQ_eq,Fast.lookQ_eq];exact run0) (by rw[Fast.runQ_eq,Fast.lookQ_eq];exact run1))
  H.of H.keeps (fun s z=>xl_of s (Bool.and_eq_true_iff.mp z).1) XL.keeps hd hp hk (fun s z=>recFacts_of (Bool.and_eq_true_iff.mp z).2) hwr k1 ok hb hw hc
noncomputable def lookA (p q:Program)(bh:Heap)(s:Shared):=
 ((staticsOk (importedModules p.main.body) bh s.heap&&namesBound p s.heap&&gensDone s&&laidKept bh s.heap),seen ((recsOf q).map (·.name)) (ownsOf q) [] { s with gens:=#[] })
noncomputable def lookB (q:Program)(s:Shared):=
 (s.heap.bltView,tabsOk q s,pinSeenD q (drecsOf q) s)
noncomputable def lookD (p q:Program)(lo:List Str)(Xt:Shared->Bool)(s:Shared):=
 (s.heap.keysOk (looseW q lo) ((recsOf q).map (·.name)) ((litsOf q).map (·.1)) ((clssOf q (looseW q lo)).map (·.name))&&s.heap.accountedOkI (importedModules p.main.body)&&s.heap.isNs mainGlobals&&s.heap.isNs builtinsNs&&tablesOk q s.heap&&Xt s&&(if true then s.gens.size==0 else !leftWithCleanup s.gens))
noncomputable def lookC (q:Program)(lo:List Str)(s:Shared):=
 (plainSeenE q (looseW q lo) s,plainSeenD q lo s,wideSeen q s,clsSeenW q lo s)
noncomputable def goodA (q:Program):=(true,expectedOf q)
noncomputable def goodB (q:Program):=(bltViewBooted,true,pinGoodD (drecsOf q))
noncomputable def goodC (q:Program)(lo:List Str):=(plainGoodE q (looseW q lo),plainGoodD q lo,wideGood q,clsGoodW q lo)
theorem goodA_self:@Tw.goodA= @Tw.goodA:=rfl
theorem goodB_self:@Tw.goodB= @Tw.goodB:=rfl
theorem goodC_self:@Tw.goodC= @Tw.goodC:=rfl
theorem lookA_self:@Tw.lookA= @Tw.lookA:=rfl
theorem lookB_self:@Tw.lookB= @Tw.lookB:=rfl
theorem lookC_self:@Tw.lookC= @Tw.lookC:=rfl
theorem lookD_self:@Tw.lookD= @Tw.lookD:=rfl
theorem map2 {α β γ:Type}{o:Option α}{f:α->β}{g:α->γ}{a:β}{b:γ}(h1:o.map f=some a)(h2:o.map g=some b):o.map (fun s=>(f s,g s))=some (a,b):=by
 cases o with
 | none=>cases h1
 | some s=>
  cases h1;cases h2;rfl
end Tw
lay_quick Tw.lookA Tw.lookB Tw.lookC Tw.lookD Tw.goodA Tw.goodB Tw.goodC
name_quick lookAQ for Tw.lookA by Tw.lookA_self
name_quick lookBQ for Tw.lookB by Tw.lookB_self
name_quick lookCQ for Tw.lookC by Tw.lookC_self
name_quick lookDQ for Tw.lookD by Tw.lookD_self
name_quick goodAQ for Tw.goodA by Tw.goodA_self
name_quick goodBQ for Tw.goodB by Tw.goodB_self
name_quick goodCQ for Tw.goodC by Tw.goodC_self
namespace Tw
open PySem PySem.Calls PySem.W PyProof.Rows
def RunA (r:OpenRow)(q:Program)(N:Nat)(row:String)(b:Bool):Prop:=
 ∀(w:World) (os:OsState),(Fast.runQ r.prog (w.withFollow row b) 11 (some (.ref 6)) N (c9e 11 (w.withFollow row b) os)).map (fun s=>Fast.lookAQ r.prog q (A3p (w.withFollow row b).params) s.abs)=some (Fast.goodAQ q)
def RunB (r:OpenRow)(q:Program)(N:Nat)(row:String)(b:Bool):Prop:=
 ∀(w:World) (os:OsState),(Fast.runQ r.prog (w.withFollow row b) 11 (some (.ref 6)) N (c9e 11 (w.withFollow row b) os)).map (fun s=>Fast.lookBQ q s.abs)=some (Fast.goodBQ q)
def RunD (r:OpenRow)(q:Program)(lo:List Str)(lv:List (Str×WData))(N:Nat)(row:String)(b:Bool):Prop:=
 ∀(w:World) (os:OsState),(Fast.runQ r.prog (w.withFollow row b) 11 (some (.ref 6)) N (c9e 11 (w.withFollow row b) os)).map (fun s=>Fast.lookDQ r.prog q lo (fun s=>xlAt q lv s&&recOk r.records s) s.abs)=some true
def RunC (r:OpenRow)(q:Program)(lo:List Str)(N:Nat)(row:String)(b:Bool):Prop:=
 ∀(w:World) (os:OsState),(Fast.runQ r.prog (w.withFollow row b) 11 (some (.ref 6)) N (c9e 11 (w.withFollow row b) os)).map (fun s=>Fast.lookCQ q lo s.abs)=some (Fast.goodCQ q lo)
def RunI (r:OpenRow)(K:Params->Frag)(as:List Addr)(n:Nat)(N:Nat)(row:String)(b:Bool):Prop:=
 ∀(w:World) (os:OsState),(Fast.runQ r.prog (w.withFollow row b) 11 (some (.ref 6)) N (c9e 11 (w.withFollow row b) os)).map (fun s=>(as.take n).map s.abs.heap.get?)=some (((K (w.withFollow row b).params).take n).map fun p=>some p.2)
def RunJ (r:OpenRow)(K:Params->Frag)(as:List Addr)(n:Nat)(N:Nat)(row:String)(b:Bool):Prop:=
 ∀(w:World) (os:OsState),(Fast.runQ r.prog (w.withFollow row b) 11 (some (.ref 6)) N (c9e 11 (w.withFollow row b) os)).map (fun s=>(as.drop n).map s.abs.heap.get?)=some (((K (w.withFollow row b).params).drop n).map fun p=>some p.2)
theorem RunOk.parts {r:OpenRow}{q:Program}{lo:List Str}{lv:List (Str×WData)}{K:Params->Frag}{as:List Addr}{g:∀P,as=(K P).map (·.1)}{n N:Nat}{row:String}{b:Bool}(a:RunA r q N row b)(b':RunB r q N row b)(d:RunD r q lo lv N row b)(c:RunC r q lo N row b)(i:RunI r K as n N row b)(j:RunJ r K as n N row b):RunOk r q lo lv (kHook K as g) N row b:=fun w os=>by
 have a1:=a w os;have b1:=b' w os;have c1:=c w os;have d1:=d w os;rw[<- Fast.lookAQ_eq,<- Fast.goodAQ_eq] at a1;rw[<- Fast.lookBQ_eq,<- Fast.goodBQ_eq] at b1;rw[<- Fast.lookCQ_eq,<- Fast.goodCQ_eq] at c1;rw[<- Fast.lookDQ_eq] at d1;rw[<- Fast.lookQ_eq];have z:=map2 (map2 a1 (map2 (map2 b1 d1) c1)) (map2 (i w os) (j w os))
 cases e:Fast.runQ r.prog (w.withFollow row b) 11 (some (.ref 6)) N (c9e 11 (w.withFollow row b) os) with
 | none=>rw[e] at z;cases z
 | some s=>
  rw[e] at z;simp only[A2k,Option.some.injEq,A9z,lookA,lookB,lookC,lookD,goodA,goodB,goodC] at z;obtain⟨⟨⟨z1,z2⟩,⟨⟨z3,z5,z6⟩,z4⟩,z7,z8,z9,z10⟩,x1,x2⟩:=z
  have z11:as.map s.abs.heap.get? = (K (w.withFollow row b).params).map fun p=>some p.2:=by
   rw[<- A5v n as,A0f,x1,x2,<- A0f,A5v]
  simp only[A2k,d6w,openSeen,openGood,kHook];rw[z1,z2,z3,z5,z6,z7,z8,z9,z10,z11];rw[z4]
end Tw
set_option Elab.async false
section
open PySem PySem.W
set_option maxHeartbeats 0
local macro_rules|`(tactic| o_head $_)=>`(tactic| assumption)
theorem Tw.pre:PySem.Challenge.rw_twinwires_k92_whole_what_went_wrong_is_p.row.Holds->PySem.Challenge.rw_twinwires_k92_whole_what_went_wrong_is_p.row.Holds:=by
 intro _
 k_head
noncomputable def Tw.vw:Program:=PySem.W.view PySem.Challenge.pw_twinwires_k92_whole_what_went_wrong_is_p [0,2,3,4,5,6,7,9,10,11,12,13,14,15,16,17,18,20,21,22,23,24,25,26,27,28,29,30,31,32,34,35,37,38,39,40,41,42,43,45,46,47,48,49,50,52,53,54,55,56,57,58,59,60,61,62,63,65,66,67,69,70,71,73,74,75,77,79,80,81,82,83,84,85,86,87,88,89,90,91,92,93,94,95,96,97,98,99,100]
def Tw.ad:List PySem.Addr:=[2,3,15,17,18,20,21,22,24,25,27,28,29,31,32,34,35,36,39,40,41,43,44,46,47,48,50,51,53,54,55,62,63,64,65,68,75,76,77,80,87,88,89,92,99,100,101,104,111,112,113,116,123,124,125,128,135,136,137,140,147,148,149,152,159,160,161,164,171,172,173,176,179,180,181,183,184,186,187,188,190,191,193,194,195,197,198,200,201,202,204,205,207,208,209,211,212,214,215,216,218,219,221,222,223,225,226,228,229,230,233,234,235,237,238,240,241,249,251,252,254,255,256,258,259,261,262,263,265,266,268,269,270,272,273,275,276,277,279,280,282,283,284,286,287,289,290,291,292,293,294,295,298,300,301,303,304,312,315,316,317,319,320,322,323,324,326,327,329,330,331,334,335,336,338,339,341,342,343,345,346,348,349,350,353,354,355,357,358,360,361,362,363,364,365,366,369,372,373,374,376,377,379,380,381,383,384,386,387,388,390,391,393,394,395,397,398,400,401,402,405,406,407,410,411,412,414,415,417,418,419,422,423,424,427,428,429,432,433,434,442,444,445,447,448,449,451,452,454,455,456,458,459,461,462,463,465,466,468,469,470,471,472,473,474,477,484,486,487,489,490,491,493,494,496,497,498,500,501,503,504,505,506,507,510,517,519,520,522,523,524,526,527,529,530,531,533,534,536,537,538,539,540,543,550,552,553,555,556,557,559,560,562,563,564,566,567,569,570,571,572,573,576,583,585,586,588,589,590,592,593,595,596,597,599,600,602,603,604,605,606,609,616,618,619,621,622,623,625,626,628,629,630,632,633,635,636,637,638,639,642,649,651,652,654,655,656,658,659,661,662,663,665,666,668,669,670,671,672,675,677,678,680,681,682,684,685,687,688,689,691,692,694,695,696,699,700,701,704,705,706,708,709,711,712,713,716,717,718,721,722,723,725,726,728,729,730,732,733,735,736,744,746,747,749,750,751,753,754,756,757,758,760,761,763,764,765,766,768,769,771,772,773,774,775,776,777,780,782,783,785,786,787,789,790,792,793,794,801,804,805,806,808,809,811,812,813,816,817,818,820,821,823,824,825,828,829,830,831,832,835,837,838,840,841,842,844,845,847,848,849,851,852,854,855,856,858,859,861,862,870,872,873,875,876,877,879,880,882,883,884,886,887,889,890,905,907,908,910,911,912,915,916,917,919,920,922,923,924,926,927,929,930,931,933,934,936,937,938,941,942,943,945,946,948,949,950,953,954,955,957,958,960,961,962,965,966,967,969,970,972,973,974,976,977,979,980]
noncomputable def Tw.hk:PySem.W.Hook:=PySem.W.kHook Tw.pre.heap_1 Tw.ad (fun _=>by kernel_rfl)
theorem Tw.runA0:Tw.RunA PySem.Challenge.rw_twinwires_k92_whole_what_went_wrong_is_p.row Tw.vw 15964 "special-get-raises" false:=fun w os=>by kernel_rfl
theorem Tw.runB0:Tw.RunB PySem.Challenge.rw_twinwires_k92_whole_what_went_wrong_is_p.row Tw.vw 15964 "special-get-raises" false:=fun w os=>by kernel_rfl
theorem Tw.runD0:Tw.RunD PySem.Challenge.rw_twinwires_k92_whole_what_went_wrong_is_p.row Tw.vw ["WIRES_BEHIND"] [] 15964 "special-get-raises" false:=fun w os=>by kernel_rfl
theorem Tw.runC0:Tw.RunC PySem.Challenge.rw_twinwires_k92_whole_what_went_wrong_is_p.row Tw.vw ["WIRES_BEHIND"] 15964 "special-get-raises" false:=fun w os=>by kernel_rfl
theorem Tw.runI0:Tw.RunI PySem.Challenge.rw_twinwires_k92_whole_what_went_wrong_is_p.row Tw.pre.heap_1 Tw.ad 396 15964 "special-get-raises" false:=fun w os=>by kernel_rfl
theorem Tw.runJ0:Tw.RunJ PySem.Challenge.rw_twinwires_k92_whole_what_went_wrong_is_p.row Tw.pre.heap_1 Tw.ad 396 15964 "special-get-raises" false:=fun w os=>by kernel_rfl
theorem Tw.run0:Tw.RunOk PySem.Challenge.rw_twinwires_k92_whole_what_went_wrong_is_p.row Tw.vw ["WIRES_BEHIND"] [] Tw.hk 15964 "special-get-raises" false:=Tw.RunOk.parts Tw.runA0 Tw.runB0 Tw.runD0 Tw.runC0 Tw.runI0 Tw.runJ0
theorem Tw.runA1:Tw.RunA PySem.Challenge.rw_twinwires_k92_whole_what_went_wrong_is_p.row Tw.vw 15964 "special-get-raises" true:=fun w os=>by kernel_rfl
theorem Tw.runB1:Tw.RunB PySem.Challenge.rw_twinwires_k92_whole_what_went_wrong_is_p.row Tw.vw 15964 "special-get-raises" true:=fun w os=>by kernel_rfl
theorem Tw.runD1:Tw.RunD PySem.Challenge.rw_twinwires_k92_whole_what_went_wrong_is_p.row Tw.vw ["WIRES_BEHIND"] [] 15964 "special-get-raises" true:=fun w os=>by kernel_rfl
theorem Tw.runC1:Tw.RunC PySem.Challenge.rw_twinwires_k92_whole_what_went_wrong_is_p.row Tw.vw ["WIRES_BEHIND"] 15964 "special-get-raises" true:=fun w os=>by kernel_rfl
theorem Tw.runI1:Tw.RunI PySem.Challenge.rw_twinwires_k92_whole_what_went_wrong_is_p.row Tw.pre.heap_1 Tw.ad 396 15964 "special-get-raises" true:=fun w os=>by kernel_rfl
theorem Tw.runJ1:Tw.RunJ PySem.Challenge.rw_twinwires_k92_whole_what_went_wrong_is_p.row Tw.pre.heap_1 Tw.ad 396 15964 "special-get-raises" true:=fun w os=>by kernel_rfl
theorem Tw.run1:Tw.RunOk PySem.Challenge.rw_twinwires_k92_whole_what_went_wrong_is_p.row Tw.vw ["WIRES_BEHIND"] [] Tw.hk 15964 "special-get-raises" true:=Tw.RunOk.parts Tw.runA1 Tw.runB1 Tw.runD1 Tw.runC1 Tw.runI1 Tw.runJ1
theorem Tw.ws1:PySem.Challenge.rw_twinwires_k92_whole_what_went_wrong_is_p.row.wellSaid=true:=by kernel_rfl
theorem Tw.ws:PySem.Challenge.rw_twinwires_k92_whole_what_went_wrong_is_p.wellSaid=true:=by
 delta PySem.W.OpenLaw.wellSaid;rewrite [Tw.ws1];kernel_rfl
end
set_option linter.all false
namespace L2
open PySem PySem.Spec PyProof.Rows
variable {K:A0a}{C a b dx f it:Addr}{A:Around}{g':Array GenState}{op:CmpOp}{d':Drawn}{c e l tg:Expr}{h:Heap}{lo:Int}{pins:List (Addr×Obj)}{kw:List (Str×Value)}{ch fp:List Addr}{es:List Expr}{body:List Stmt}{N ps:List Str}{us:List Value}{M:Model}{i j k t':Nat}{o:Obj}{p pos:Pos}{P:Program}{scope:Scope}{pl:Sem Bool}{s:Shared}{qual x:Str}{u:Value}
abbrev Key:=Sum Int Str
def keyIs:Key->Value->Bool
 | .inl k,v=>Value.isInt k v
 | .inr x,v=>Value.isStrOf x v
def keyH (w:World):Key->Int
 | .inl k=>hashInt k
 | .inr x=>hashStr w x
theorem a4n:∀{k:Key} {v:Value},keyIs k v=true->(∃i t,k=B1f i/\v=A7b i t)\/(∃x t,k=B1v x/\v=B1h x t)
 | .inl i,v,h=>by
  obtain⟨t,e⟩:=Value.isInt_shape (k:=i) (v:=v) h;exact .inl ⟨i,t,rfl,e⟩
 | .inr x,v,h=>by
  obtain⟨t,e⟩:=Value.isStrOf_shape (x:=x) (v:=v) h;exact .inr ⟨x,t,rfl,e⟩
theorem keyIs_int (i:Int)(t:Tok):keyIs (.inl i) (.int i t)=true:=by simp[keyIs,Value.isInt]
theorem keyIs_str (x:Str)(t:Tok):keyIs (.inr x) (.str x t)=true:=by simp[keyIs,Value.isStrOf]
theorem key_ll (a b:Int):decide ((B1f a:Key)=B1f b)=(a==b):=by
 by_cases e:a=b
 ·subst e;simp
 ·have h:¬(B1f a:Key)=B1f b:=fun q=>e (Sum.inl.inj q);rw[decide_eq_false h];exact(beq_eq_false_iff_ne.mpr e).symm
theorem key_rr (a b:Str):decide ((B1v a:Key)=B1v b)=decide (a=b):=by
 by_cases e:a=b
 ·subst e;simp
 ·have h:¬(B1v a:Key)=B1v b:=fun q=>e (Sum.inr.inj q);rw[decide_eq_false h,decide_eq_false e]
theorem key_lr (a:Int)(b:Str):decide ((B1f a:Key)=B1v b)=false:=decide_eq_false (fun q=>nomatch q)
theorem key_rl (a:Str)(b:Int):decide ((B1v a:Key)=B1f b)=false:=decide_eq_false (fun q=>nomatch q)
def a2m (prog:Program)(w:World):PySem.KeyKind prog w Key where
 is:=keyIs
 hash:=keyH w
 inj:=fun v a b ha hb=>by
  rcases a4n ha with ⟨i,t,rfl,rfl⟩|⟨x,t,rfl,rfl⟩
  ·rcases a4n hb with ⟨j,u,rfl,e⟩|⟨y,u,rfl,e⟩
   ·injection e with e1 _;rw[e1]
   ·exact nomatch e
  ·rcases a4n hb with ⟨j,u,rfl,e⟩|⟨y,u,rfl,e⟩
   ·exact nomatch e
   ·injection e with e1 _;rw[e1]
 byValue:=fun k v h=>by
  rcases a4n h with ⟨i,t,rfl,rfl⟩|⟨x,t,rfl,rfl⟩<;>rfl
 pyHash:=fun hv h=>by
  rcases a4n hv with ⟨i,t,rfl,rfl⟩|⟨x,t,rfl,rfl⟩
  ·exact wpAny_pyHash_int h
  ·exact wpAny_pyHash_str h
 eqBool:=fun hu hv h=>by
  rcases a4n hu with ⟨i,t,rfl,rfl⟩|⟨x,t,rfl,rfl⟩
  ·rcases a4n hv with ⟨j,u,rfl,rfl⟩|⟨y,u,rfl,rfl⟩
   ·rw[key_ll] at h;exact wpAny_eqBool_int h
   ·rw[key_lr] at h;exact B1j i t y u _ _ _ _ h
  ·rcases a4n hv with ⟨j,u,rfl,rfl⟩|⟨y,u,rfl,rfl⟩
   ·rw[key_rl] at h;exact B1k x t j u _ _ _ _ h
   ·rw[key_rr] at h;exact wpAny_eqBool_str h
 «strs»:=fun k x t v h=>by
  rcases a4n h with ⟨i,u,rfl,e⟩|⟨y,u,rfl,e⟩
  ·exact nomatch e
  ·injection e with e1 _
   subst e1;cases v<;>rfl
theorem mixKind_int (prog:Program)(w:World)(i:Int)(t:Tok):(a2m prog w).is (.inl i) (.int i t)=true:=keyIs_int i t
theorem mixKind_str (prog:Program)(w:World)(x:Str)(t:Tok):(a2m prog w).is (.inr x) (.str x t)=true:=keyIs_str x t
inductive V where
 | non|bl (b:Bool)|int (i:Int)|str (x:Str)|byt (b:Array UInt8)|flt (b:UInt64)|ref (a:Addr)|ty (n:String)
 deriving DecidableEq
def a8e:V->Value->Prop
 | .non,u=>u=B1w
 | .bl b,u=>u=B1a b
 | .int i,u=>∃t,u=A7b i t
 | .str x,u=>∃t,u=B1h x t
 | .byt b,u=>∃t,u=Value.bytes b t
 | .flt b,u=>∃t,u=B2h b t
 | .ref a,u=>u=A3b a
 | .ty n,u=>u=Value.type n
abbrev a5q:List V->List Value->Prop:=Paired a8e
theorem a5q.length {xs:List V}{us:List Value}(r:a5q xs us):xs.length=us.length:=Paired.length r
theorem a5q.get:∀{xs:List V} {us:List Value} {i:Nat} {x:V},a5q xs us->xs[i]? = some x->∃u,us[i]? = some u/\a8e x u
 | _,_,_,_,.nil,e=>by simp at e
 | _,_,0,_,.cons r _,e=>by simp at e;subst e;exact⟨_,rfl,r⟩
 | _,_,i+1,x,.cons _ t,e=>by
  obtain⟨u,h1,h2⟩:=a5q.get (i:=i) (x:=x) t (by simpa using e);exact⟨u,by simpa using h1,h2⟩
theorem a5q.append:∀{xs ys:List V} {us ws:List Value},a5q xs us->a5q ys ws->a5q (xs++ys) (us++ws)
 | _,_,_,_,.nil,s=>s
 | _,_,_,_,.cons r t,s=>.cons r (a5q.append t s)
theorem a5q.take:∀{xs:List V} {us:List Value} (n:Nat),a5q xs us->a5q (xs.take n) (us.take n)
 | _,_,0,_=>.nil
 | _,_,_+1,.nil=>.nil
 | _,_,n+1,.cons r t=>.cons r (a5q.take n t)
theorem a5q.drop:∀{xs:List V} {us:List Value} (n:Nat),a5q xs us->a5q (xs.drop n) (us.drop n)
 | _,_,0,r=>r
 | _,_,_+1,.nil=>.nil
 | _,_,n+1,.cons _ t=>a5q.drop n t
def RelO:Option V->Option Value->Prop
 | some v,some u=>a8e v u
 | none,none=>True
 | _,_=>False
def KV {κ:Type}:List (κ×V)->List (κ×Value)->Prop:=Paired fun (p:κ×V) (q:κ×Value)=>p.1=q.1/\a8e p.2 q.2
def kV:Key->V
 | .inl i=>.int i
 | .inr x=>.str x
inductive HO where
 /-- a list -/
 | lst (xs:List V)
 /-- a tuple (never changes) -/
 | tup (xs:List V)
 /-- a dict whose keys are ints and texts;one whose keys are tuples of ints and texts (the empty one is both) -/
 | dK (kvs:List (Key×V))|dT (kvs:List (List Key×V))
 /-- a set of ints: its members,its size -/
 | set (S:Int->Bool) (n:Nat)
 /-- an instance of the class at C,its dict at dx,its attributes -/
 | ins (C dx:Addr) (fs:List (Str×V))
 /-- the dict of the instance at x -/
 | own (x:Addr)
 /-- the dict of an exception -/
 | xd (fs:List (Str×V))
 /-- a bound method,f of x -/
 | met (f x:Addr)
 /-- a range object lo,lo+1,.. below hi -/
 | rng (lo hi:Int)
 /-- a thing that is known to the object (the script;a dict while a loop walks it): read,never written while it is so -/
 | frz (o:Obj) (u:HO)
 /-- a code object's table -/
 | tbl (ps:Array Value)
 /-- any other thing,by what is true of its one object (a def of one's own: SetO a S n:=HO.ext fun h=>..) -/
 | ext (φ:Heap->Prop)
abbrev Hp:=Addr->Option HO
def upd (H:Hp)(a:Addr)(o:HO):Hp:=fun b=>if b=a then some o else H b
theorem a0d {H:Hp}{o:HO}:upd H a o a=some o:=by unfold upd;rw[if_pos rfl]
theorem a0w {H:Hp}{o:HO}(h:b≠a):upd H a o b=H b:=by unfold upd;rw[if_neg h]
theorem upd_upd {H:Hp}{o u:HO}:upd (upd H a o) a u=upd H a u:=by
 funext b;unfold upd;split<;>rfl
theorem a8x {H:Hp}{o u:HO}(h:H a=some o)(h':H b=some u)(d:o≠u):a≠b:=by
 intro e;subst e;rw[h] at h';exact d (A0s h')
theorem a0j {H:Hp}{o:HO}(h:H a=some o)(h':H b=none):a≠b:=by
 intro e;subst e;rw[h] at h';cases h'
section
variable (P:Program)(w:World)
def a8s (H:Hp)(h:Heap)(a:Addr):HO->Prop
 | .lst xs=>xs.length<=sizeLine/\∃(its:List Value) (n:Nat),a5q xs its/\h.get? a=some { cls:=.type "list",data:=.seq its.toArray n }
 | .tup xs=>xs.length<=sizeLine/\∃its:List Value,a5q xs its/\IsTup h a its.toArray
 | .dK kvs=>kvs.length<=sizeLine/\(a==sysModules)=false/\∃vs,KV kvs vs/\h.DictOf (a2m P w) a vs
 | .dT kvs=>kvs.length<=sizeLine/\(a==sysModules)=false/\∃xs:List (List Key×Addr×Value),
   Paired (fun (p:List Key×V) (q:List Key×Addr×Value)=>p.1=q.1/\H q.2.1=some (.tup (p.1.map kV))/\a8e p.2 q.2.2) kvs xs/\
   ∃o es ep,h.get? a=some o/\o.ExactDict/\o.data=.dict es ep/\es.toList=xs.map (entryOfKey (tupleKind (a2m P w)))/\(xs.map (·.1)).Nodup
 | .set S n=>h.SetOf (intKind P w) a S n
 | .ins C dx fs=>H dx=some (.own a)/\fs.length<=1000/\dx≠a/\h.get? a=some (A4s C dx)/\
   ∃mA,h.Ns1 dx mA/\(∀f,RelO (fs.lookup f) (mA f))/\B2a mA (fs.map (·.1))
 | .own _=>∃o,h.get? a=some o
 | .xd fs=>∃mA,h.Ns1 a mA/\∀f,RelO (fs.lookup f) (mA f)
 | .rng lo hi=>∃t u v,h.get? a=some { cls:=.type "range",data:=.fields #[.int lo t,.int hi u,.int 1 v] }
 | .frz o u=>h.get? a=some o/\a8s H h a u
 | .tbl ps=>h.get? a=some { cls:=.none,data:=.fields ps }
 | .met f x=>h.get? a=some (A9p (.ref f) (.ref x))
 | .ext φ=>φ h/\(∃o,h.get? a=some o)/\∀h1 h2:Heap,φ h1->(∀o,h1.get? a=some o->h2.get? a=some o)->φ h2
def HOk (H:Hp)(h:Heap):Prop:=∀a o,H a=some o->a8s P w H h a o
end
section
variable {P:Program}{w:World}{H H':Hp}{h h':Heap}{a:Addr}{o:HO}
theorem a8s.lt (x:a8s P w H h a o):a<h.objs.size:=by
 cases o with
 | lst xs=>obtain⟨_,_,_,_,e⟩:=x;exact A0y e
 | tup xs=>obtain⟨_,_,_,p⟩:=x;exact p.lt
 | dK kvs=>obtain⟨_,_,_,_,o,_,_,e,_⟩:=x;exact A0y e
 | dT kvs=>obtain⟨_,_,_,_,o,_,_,e,_⟩:=x;exact A0y e
 | set S n=>obtain⟨o,_,_,_,e,_⟩:=x;exact A0y e
 | ins C dx fs=>obtain⟨_,_,_,e,_⟩:=x;exact A0y e
 | own y=>obtain⟨_,e⟩:=x;exact A0y e
 | xd fs=>obtain⟨_,⟨_,_,_,e,_⟩,_⟩:=x;exact A0y e
 | rng lo hi=>obtain⟨_,_,_,e⟩:=x;exact A0y e
 | frz ob u=>obtain⟨e,_⟩:=x;exact A0y e
 | tbl ps=>exact A0y (show h.get? a=some _ from x)
 | met f y=>exact A0y (show h.get? a=some _ from x)
 | ext φ=>obtain⟨_,⟨_,e⟩,_⟩:=x;exact A0y e
theorem Paired.mapP {α β:Type}{F G:α->β->Prop}:∀{l₁:List α} {l₂:List β},Paired F l₁ l₂->(∀a b,F a b->G a b)->Paired G l₁ l₂
 | _,_,.nil,_=>.nil
 | _,_,.cons r t,f=>.cons (f _ _ r) (Paired.mapP t f)
theorem a8s.stay (x:a8s P w H h a o)(k:∀b u,(b=a\/H b=some (.own a))->h.get? b=some u->h'.get? b=some u)
  (ho:∀b,H b=some (.own a)->H' b=some (.own a)) (ht:∀b xs,H b=some (.tup xs)->H' b=some (.tup xs)):a8s P w H' h' a o:=by
 induction o with
 | lst xs=>obtain⟨z,its,n,r,e⟩:=x;exact⟨z,its,n,r,k _ _ (.inl rfl) e⟩
 | tup xs=>obtain⟨z,its,r,ob,e,c⟩:=x;exact⟨z,its,r,ob,k _ _ (.inl rfl) e,c⟩
 | dK kvs=>obtain⟨z,y,vs,r,ob,es,ep,e,c⟩:=x;exact⟨z,y,vs,r,ob,es,ep,k _ _ (.inl rfl) e,c⟩
 | dT kvs=>
  obtain⟨z,y,xs,r,ob,es,ep,e,c⟩:=x;exact⟨z,y,xs,Paired.mapP r fun p q z=>⟨z.1,ht _ _ z.2.1,z.2.2⟩,ob,es,ep,k _ _ (.inl rfl) e,c⟩
 | set S n=>obtain⟨ob,es,ep,t,e,c⟩:=x;exact⟨ob,es,ep,t,k _ _ (.inl rfl) e,c⟩
 | ins C dx fs=>
  obtain⟨d,z,ne,e,mA,⟨od,es,ep,e2,c⟩,r⟩:=x;exact⟨ho _ d,z,ne,k _ _ (.inl rfl) e,mA,⟨od,es,ep,k _ _ (.inr d) e2,c⟩,r⟩
 | own y=>obtain⟨ob,e⟩:=x;exact⟨ob,k _ _ (.inl rfl) e⟩
 | xd fs=>obtain⟨mA,⟨od,es,ep,e,c⟩,r⟩:=x;exact⟨mA,⟨od,es,ep,k _ _ (.inl rfl) e,c⟩,r⟩
 | rng lo hi=>obtain⟨t,u,v,e⟩:=x;exact⟨t,u,v,k _ _ (.inl rfl) e⟩
 | frz ob u ih=>obtain⟨e,q⟩:=x;exact⟨k _ _ (.inl rfl) e,ih q⟩
 | tbl ps=>
  have e:h.get? a=some { cls:=.none,data:=.fields ps }:=x;show h'.get? a=some { cls:=.none,data:=.fields ps };exact k a _ (.inl rfl) e
 | met f y=>
  have e:h.get? a=some (A9p (.ref f) (.ref y)):=x;show h'.get? a=some (A9p (.ref f) (.ref y));exact k a _ (.inl rfl) e
 | ext φ=>obtain⟨p,⟨o,e⟩,st⟩:=x;exact⟨st _ _ p fun o q=>k _ _ (.inl rfl) q,⟨o,k _ _ (.inl rfl) e⟩,st⟩
theorem HOk.lt (x:HOk P w H h)(e:H a=some o):a<h.objs.size:=(x a o e).lt
theorem HOk.fresh (x:HOk P w H h)(e:h.objs.size<=a):H a=none:=by
 cases q:H a with
 | none=>rfl
 | some u=>exact absurd (A0c (x.lt q) e) (A2z _)
theorem HOk.kept (x:HOk P w H h)(k:∀b u,h.get? b=some u->h'.get? b=some u):HOk P w H h':=fun a o e=>
 (x a o e).stay (fun b u _ q=>k b u q) (fun _ q=>q) fun _ _ q=>q
theorem HOk.laid (x:HOk P w H h)(k:∀b u,h.get? b=some u->h'.get? b=some u)(hp:h.objs.size<=a)(new:a8s P w (upd H a o) h' a o):HOk P w (upd H a o) h':=fun b u e=>by
 have hn:=x.fresh hp
 by_cases hb:b=a
 ·subst hb;rw[a0d] at e;cases e;exact new
 ·rw[a0w hb] at e;exact(x b u e).stay (fun c v _ q=>k c v q) (fun c q=>by rw[a0w (a0j q hn)];exact q) fun c xs q=>by rw[a0w (a0j q hn)];exact q
end
def Rd (H:Hp)(a:Addr)(u:HO):Prop:=H a=some u\/∃o,H a=some (.frz o u)
theorem Rd.ok {w:World}{H:Hp}{u:HO}(r:Rd H a u)(x:HOk P w H h):a8s P w H h a u:=by
 rcases r with r|⟨o,r⟩
 ·exact x a u r
 ·obtain⟨_,q⟩:=x a _ r;exact q
def Mut:Option HO->Prop
 | some (.lst _)=>True
 | some (.dK _)=>True
 | some (.dT _)=>True
 | some (.set _ _)=>True
 | some (.ins _ _ _)=>True
 | some (.ext _)=>True
 | _=>False
section
variable {P:Program}{w:World}{H:Hp}{h h':Heap}{x e:Addr}{o':HO}
theorem HOk.write (ok:HOk P w H h)(mu:Mut (H x))(he:e=x\/H e=some (.own x))(k:∀b u,b≠e->h.get? b=some u->h'.get? b=some u)(heo:∃u,h'.get? e=some u)
  (new:a8s P w (upd H x o') h' x o'):HOk P w (upd H x o') h':=fun b u q=>by
 have nown:∀c y,H c=some (.own y)->c≠x:=fun c y r z=>by subst z;rw[r] at mu;exact mu
 have ntup:∀c xs,H c=some (.tup xs)->c≠x:=fun c xs r z=>by subst z;rw[r] at mu;exact mu
 by_cases hb:b=x
 ·subst hb;rw[a0d] at q;cases q;exact new
 ·rw[a0w hb] at q
  by_cases hbe:b=e
  ·have q':H b=some (.own x):=by
    rcases he with z|z
    ·exact absurd (hbe.trans z) hb
    ·rw[hbe];exact z
   rw[q] at q';cases q';obtain⟨v,hv⟩:=heo;exact⟨v,by rw[hbe];exact hv⟩
  ·refine(ok b u q).stay (fun c v hc r=>k c v ?_ r) (fun c r=>by rw[a0w (nown c b r)];exact r) fun c xs r=>by rw[a0w (ntup c xs r)];exact r
   rcases hc with rfl|hc
   ·exact hbe
   ·rintro rfl
    rcases he with z|z
    ·exact nown c b hc z
    ·rw[hc] at z;cases z;exact hb rfl
end
structure Un (fs ex:List Addr)(H H':Hp)(h h':Heap):Prop where
 keep:∀b o,h.get? b=some o->H b=none->b∉fs->b∉ex->h'.get? b=some o
 slot:∀b o,h.get? b=some o->H b=none->b∈fs->b∉ex->∃sl,h'.get? b=some { o with slots:=sl }
 free:∀b o,h.get? b=some o->H b=none->b∉ex->H' b=none
 there:∀b o,h.get? b=some o->b∉ex->∃o',h'.get? b=some o'
 tups:∀b xs,H b=some (.tup xs)->H' b=some (.tup xs)
 frzs:∀b o u,H b=some (.frz o u)->H' b=some (.frz o u)
 tbls:∀b ps,H b=some (.tbl ps)->∃more,H' b=some (.tbl (ps++more))
section
variable {fs fs' ex ex':List Addr}{H H1 H2:Hp}{h h1 h2 h':Heap}{a x e:Addr}{o:HO}
theorem Un.any (u:Un fs ex H H1 h h1){ob:Obj}(q:h.get? b=some ob)(n:H b=none)(hx:b∉ex):∃sl,h1.get? b=some { ob with slots:=sl }:=by
 by_cases hb:b∈fs
 ·exact u.slot b ob q n hb hx
 ·exact⟨ob.slots,u.keep b ob q n hb hx⟩
theorem Un.kept (k:∀b u,h.get? b=some u->h'.get? b=some u):Un fs ex H H h h':=
 ⟨fun b ob q _ _ _=>k b ob q,fun b ob q _ _ _=>⟨ob.slots,k b ob q⟩,fun _ _ _ n _=>n,fun b ob q _=>⟨ob,k b ob q⟩,fun _ _ q=>q,fun _ _ _ q=>q,fun _ ps q=>⟨#[],by rw[q];simp⟩⟩
theorem Un.refl:Un fs ex H H h h:=Un.kept fun _ _ q=>q
theorem Un.laid (k:∀b u,h.get? b=some u->h'.get? b=some u)(hp:h.objs.size<=a)(hn:H a=none):Un fs ex H (upd H a o) h h' where
 keep:=fun b u q _ _ _=>k b u q
 slot:=fun b u q _ _ _=>⟨u.slots,k b u q⟩
 free:=fun b u q n _=>by rw[a0w (A2r (A0c (A0y q) hp))];exact n
 there:=fun b u q _=>⟨u,k b u q⟩
 tups:=fun b xs q=>by rw[a0w (a0j q hn)];exact q
 frzs:=fun b u xs q=>by rw[a0w (a0j q hn)];exact q
 tbls:=fun b ps q=>⟨#[],by rw[a0w (a0j q hn),q];simp⟩
theorem Un.write (mu:Mut (H x))(he:e=x\/H e=some (.own x))(k:∀b u,b≠e->h.get? b=some u->h'.get? b=some u)(heo:∃u,h'.get? e=some u):Un fs ex H (upd H x o) h h':=by
 have hx:∀b,H b=none->b≠x:=fun b n z=>by subst z;rw[n] at mu;exact mu
 have hb:∀b,H b=none->b≠e:=fun b n z=>by
  subst z
  rcases he with r|r
  ·exact hx b n r
  ·rw[n] at r;cases r
 have hm:∀b u,H b=some u->¬Mut (some u)->b≠x:=fun b u q nm z=>by subst z;rw[q] at mu;exact nm mu
 refine⟨fun b u q n _ _=>k b u (hb b n) q,fun b u q n _ _=>⟨u.slots,k b u (hb b n) q⟩,fun b u q n _=>by rw[a0w (hx b n)];exact n,fun b u q _=>?_,
  fun b xs q=>by rw[a0w (hm b _ q fun z=>z)];exact q,fun b u xs q=>by rw[a0w (hm b _ q fun z=>z)];exact q,fun b ps q=>⟨#[],by rw[a0w (hm b _ q fun z=>z),q];simp⟩⟩
 by_cases hbe:b=e
 ·subst hbe;exact heo
 ·exact⟨u,k b u hbe q⟩
end
def trk (h:Heap)(H:Hp):List Addr:=(A3a h.objs.size).filter fun a=>(H a).isSome
def hidT (h:Heap)(H:Hp):Heap:=PySem.W.hideAll h (trk h H)
theorem hidT_size (h:Heap)(H:Hp):(hidT h H).objs.size=h.objs.size:=PySem.W.hideAll_size _ _
theorem hidT_get {H:Hp}(e:h.get? b=some o)(n:H b=none):(hidT h H).get? b=some o:=
 PySem.W.hideAll_get _ e fun hm=>by
  have q:(H b).isSome=true:=(List.mem_filter.mp hm).2;rw[n] at q;simp at q
theorem of_hidT {H:Hp}(e:(hidT h H).get? b=some o):h.get? b=some o/\H b=none:=by
 have e':h.get? b=some o:=PySem.W.of_hideAll (trk h H) e;refine⟨e',?_⟩
 cases q:H b with
 | none=>rfl
 | some x=>
  have hm:b∈trk h H:=List.mem_filter.mpr ⟨List.mem_range.mpr (A0y e'),by simp[q]⟩;have z:(hidT h H).get? b=none:=PySem.W.hideAll_none (trk h H) hm;rw[z] at e;cases e
def allNews (g h:Heap)(L:Addr):List (Addr×Obj):=(A3a h.objs.size).filterMap fun a=>if a=L\/(g.get? a).isSome=true then none else (h.get? a).map fun o=>(a,o)
def b1g (g h:Heap)(L d:Addr):List (Addr×Obj):=(allNews g h L).filter fun p=>decide (p.1≠d)
structure Mod (K:A0a)(mg:Str->Option Value)(base:Heap):Prop where
 kin:K.In base
 glob:base.Ns mainGlobals mg
 blt:∃mb,base.Ns builtinsNs mb/\∀x:Str,x ≠ "__name__"->mb x=bootBuiltins x
 nolimit:base.NoLimit
structure Cx where
 prog:Program
 w:World
 K:A0a
 mg:Str->Option Value
 base:Heap
 A:Around
 N:List Str
 s₀:Shared
 H₀:Hp
 env:Env
 outer:List Env
 stack:List Env
 ex:List Addr
 fn:Str->Bool
 calm:Bool
 pn:List (Addr×Obj)
 xe:Value->Shared->Prop
def frs (l:List Env):List Addr:=l.filterMap (·.frame)
abbrev Cx.fs (X:Cx):List Addr:=frs X.outer
def Vis (sc:Scope)(x:Str):Prop:=sc.names.lookup x=some .local\/sc.names.lookup x=some .cell\/sc.names.lookup x=some .free
def Loc (sc:Scope)(x:Str):Prop:=sc.names.lookup x=some .local\/sc.names.lookup x=some .cell
def Look (env:Env)(h:Heap)(m:Str->Option Value)(x:Str)(u:Value):Prop:=
 (env.kindOf x=some .local/\m x=some u)\/((env.kindOf x=some .cell\/env.kindOf x=some .free)/\∃c,env.cells.lookup x=some c/\h.IsCell c (some u))
structure Cx.Ok (X:Cx):Prop where
 mod:Mod X.K X.mg X.base
 kind:X.env.scope.kind=.function
 glob:X.env.globals=mainGlobals
 blt:X.env.builtins=builtinsNs
 above:X.s₀.heap.objs.size<=X.env.locals
 inj:∀x y c,X.env.cells.lookup x=some c->X.env.cells.lookup y=some c->x=y
 has:∀x,(X.env.kindOf x=some .cell\/X.env.kindOf x=some .free)->∃c,X.env.cells.lookup x=some c
 cab:∀x c,X.fn x=true->X.env.cells.lookup x=some c->X.s₀.heap.objs.size<=c
 hd:X.calm=true->X.A.handled=none
 frames:X.A.frames=some X.stack
 stk:X.stack=X.outer\/(X.stack=X.env::X.outer/\X.env.frame=some X.env.locals)
 exf:∀b∈X.ex,b≠X.env.locals/\∀x c,X.env.cells.lookup x=some c->c≠b
 bs:∀b o,X.base.get? b=some o->X.s₀.heap.get? b=some o/\X.H₀ b=none
 bsz:X.base.objs.size<=X.s₀.heap.objs.size
 noex:∀b o,X.base.get? b=some o->b∉X.ex
 exfs:∀b∈X.ex,b∉X.fs
 funs:X.s₀.heap.FunFrames X.base X.outer
 frf:∀b∈X.fs,X.H₀ b=none
structure Inv (X:Cx)(pins:List (Addr×Obj))(σ:List (Option V))(H:Hp)(s:Shared):Prop where
 ok:X.Ok
 os:s.os=X.s₀.os
 bare:AllBare s.gens
 base:Un X.fs X.ex X.H₀ H X.s₀.heap s.heap
 loc:∃m,s.heap.Ns X.env.locals m/\∀(i:Nat) (x:Str) (v:V),X.N[i]? = some x->σ[i]? = some (some v)->Vis X.env.scope x->∃u,a8e v u/\Look X.env s.heap m x u
 cell:∀x c,X.env.cells.lookup x=some c->∃v,s.heap.IsCell c v
 free:H X.env.locals=none
 freeC:∀x c,X.env.cells.lookup x=some c->H c=none
 pin:∀p∈X.pn++pins,s.heap.get? p.1=some p.2/\H p.1=none/\p.1≠X.env.locals/\p.1∉X.fs/\∀v,p.2.data≠.cell v
 hok:HOk X.prog X.w H s.heap
 len:σ.length=X.N.length
section
variable {X:Cx}{pins:List (Addr×Obj)}{σ:List (Option V)}{H H':Hp}{s:Shared}{h':Heap}
theorem Cx.Ok.nofr (ok:X.Ok)(e:X.base.get? b=some o):b∉X.fs:=fun hb=>by
 have:=(ok.funs.mem hb).1;rw[e] at this;cases this
theorem Inv.bs (I:Inv X pins σ H s):∀b o,X.base.get? b=some o->s.heap.get? b=some o/\H b=none:=fun b o e=>
 ⟨I.base.keep b o (I.ok.bs b o e).1 (I.ok.bs b o e).2 (I.ok.nofr e) (I.ok.noex b o e),I.base.free b o (I.ok.bs b o e).1 (I.ok.bs b o e).2 (I.ok.noex b o e)⟩
theorem Inv.bk (I:Inv X pins σ H s):∀b o,X.base.get? b=some o->s.heap.get? b=some o:=fun b o e=>(I.bs b o e).1
theorem Inv.mod (I:Inv X pins σ H s):Mod X.K X.mg X.base:=I.ok.mod
theorem Inv.kIn (I:Inv X pins σ H s):X.K.In s.heap:=I.ok.mod.kin.keeps I.bk
theorem Inv.lt (I:Inv X pins σ H s):X.env.locals<s.heap.objs.size:=let ⟨_,hn,_⟩:=I.loc;hn.lt
theorem Inv.sz (I:Inv X pins σ H s):X.s₀.heap.objs.size<=s.heap.objs.size:=A1z I.ok.above (A3q I.lt)
theorem Inv.nofs (I:Inv X pins σ H s)(h:s.heap.objs.size<=a):a∉X.fs:=fun hb=>by
 obtain⟨_,o,ho,_⟩:=I.ok.funs.mem hb;exact absurd (A0c (A0y ho) (A1z I.sz h)) (A2z _)
theorem Inv.cne (I:Inv X pins σ H s):∀x c,X.env.cells.lookup x=some c->c≠X.env.locals:=fun x c e z=>by
 obtain⟨v,o,ho,hd⟩:=I.cell x c e;obtain⟨m,⟨o',es,ep,ho',hd',_⟩,_⟩:=I.loc;rw[z,ho'] at ho;cases ho;rw[hd'] at hd;cases hd
theorem Inv.funs (I:Inv X pins σ H s):s.heap.FunFrames X.base X.outer:=by
 have all:∀(l:List Env),(∀b∈frs l,b∈X.fs)->X.s₀.heap.FunFrames X.base l->s.heap.FunFrames X.base l:=by
  intro l
  induction l with
  | nil=>intro _ _;trivial
  | cons env r ih=>
   intro hs hl;obtain⟨hk,⟨L,o,hf,hn,ho,hd⟩,hr⟩:=hl;have hL:L∈X.fs:=hs L (by unfold frs;rw[A8m,hf];exact A0d);obtain⟨sl,e⟩:=I.base.slot L o ho (I.ok.frf L hL) hL fun z=>I.ok.exfs L z hL;exact⟨hk,⟨L,_,hf,hn,e,hd⟩,ih (fun b hb=>hs b (by unfold frs;rw[A8m,hf];exact A0e _ hb)) hr⟩
 exact all X.outer (fun _ hb=>hb) I.ok.funs
theorem Inv.stack (I:Inv X pins σ H s):s.heap.FunFrames X.base X.stack:=by
 rcases I.ok.stk with e|⟨e,hf⟩
 ·rw[e];exact I.funs
 ·rw[e];obtain⟨m,hn,_⟩:=I.loc;refine .cons (by rw[I.ok.kind];decide) hf hn ?_ I.funs;exact Heap.get?_none_of_le (A1z I.ok.bsz I.ok.above)
theorem Inv.stkSub (I:Inv X pins σ H s):∀b∈frs X.stack,b∈X.env.locals::X.fs:=fun b hb=>by
 rcases I.ok.stk with e|⟨e,hf⟩
 ·rw[e] at hb;exact A0e _ hb
 ·rw[e] at hb;unfold frs at hb;rw[A8m,hf] at hb;exact hb
theorem Inv.stkFree (I:Inv X pins σ H s):∀b∈frs X.stack,H b=none:=fun b hb=>by
 rcases List.mem_cons.mp (I.stkSub b hb) with e|hb
 ·rw[e];exact I.free
 ·obtain⟨_,o,ho,_⟩:=I.ok.funs.mem hb;exact I.base.free b o ho (I.ok.frf b hb) fun z=>I.ok.exfs b z hb
theorem Inv.step {g':Array GenState}{t':Nat}{d':Drawn}(I:Inv X pins σ H s)
  (hch:∀b∈ch,(b∈X.ex\/X.s₀.heap.objs.size<=b)/\b≠X.env.locals/\(∀x c,X.env.cells.lookup x=some c->c≠b)/\∀p∈X.pn++pins,p.1≠b)
  (keep:∀b o,b≠X.env.locals->b∉X.fs->b∉ch->s.heap.get? b=some o->H b=none->h'.get? b=some o)
  (slot:∀b o,b≠X.env.locals->b∈X.fs->b∉ch->s.heap.get? b=some o->H b=none->∃sl,h'.get? b=some { o with slots:=sl }) (free:∀b o,b∉ch->s.heap.get? b=some o->H b=none->H' b=none)
  (there:∀b o,b∉ch->s.heap.get? b=some o->∃o',h'.get? b=some o')
  (tups:∀b xs,H b=some (.tup xs)->H' b=some (.tup xs)) (frzs:∀b o u,H b=some (.frz o u)->H' b=some (.frz o u)) (tbls:∀b ps,H b=some (.tbl ps)->∃more,H' b=some (.tbl (ps++more)))
  (ns:∀m,s.heap.Ns X.env.locals m->h'.Ns X.env.locals m) (hok:HOk X.prog X.w H' h') (hg:AllBare g') :
  Inv X pins σ H' { s with heap:=h',gens:=g',drawn:=d',toks:=t' }:=by
 have neL:∀b o,X.s₀.heap.get? b=some o->b≠X.env.locals:=fun b o e=>A2r (A0c (A0y e) I.ok.above)
 have neC:∀b o,X.s₀.heap.get? b=some o->b∉X.ex->b∉ch:=fun b o e hx hb=>by
  rcases (hch b hb).1 with z|z
  ·exact hx z
  ·exact absurd (A0c (A0y e) z) (A2z _)
 have cellK:∀x c,X.env.cells.lookup x=some c->∀v,s.heap.IsCell c v->h'.IsCell c v:=fun x c e v ⟨o,ho,hd⟩=>by
  have nch:c∉ch:=fun z=>(hch c z).2.2.1 x c e rfl
  by_cases hc:c∈X.fs
  ·obtain⟨sl,q⟩:=slot c o (I.cne x c e) hc nch ho (I.freeC x c e);exact⟨_,q,hd⟩
  ·exact⟨o,keep c o (I.cne x c e) hc nch ho (I.freeC x c e),hd⟩
 refine⟨I.ok,I.os,hg,⟨fun b o e n hb hx=>?_,fun b o e n hb hx=>?_,fun b o e n hx=>?_,fun b o e hx=>?_,fun b xs e=>tups b xs (I.base.tups b xs e),fun b o xs e=>frzs b o xs (I.base.frzs b o xs e),fun b ps e=>?_⟩,?_,fun x c e=>?_,?_,fun x c e=>?_,fun p hp=>?_,hok,I.len⟩
 ·exact keep b o (neL b o e) hb (neC b o e hx) (I.base.keep b o e n hb hx) (I.base.free b o e n hx)
 ·obtain⟨sl,e1⟩:=I.base.slot b o e n hb hx;obtain⟨sl',e2⟩:=slot b _ (neL b o e) hb (neC b o e hx) e1 (I.base.free b o e n hx);exact⟨sl',e2⟩
 ·obtain⟨o',e1⟩:=I.base.there b o e hx;exact free b o' (neC b o e hx) e1 (I.base.free b o e n hx)
 ·obtain⟨o',e1⟩:=I.base.there b o e hx;exact there b o' (neC b o e hx) e1
 ·obtain⟨m1,e1⟩:=I.base.tbls b ps e;obtain⟨m2,e2⟩:=tbls b _ e1;exact⟨m1++m2,by rw[e2,Array.append_assoc]⟩
 ·obtain⟨m,hn,hl⟩:=I.loc;refine⟨m,ns m hn,fun i x v e1 e2 e3=>?_⟩;obtain⟨u,r,l⟩:=hl i x v e1 e2 e3;refine⟨u,r,?_⟩
  rcases l with l|⟨k,c,e,z⟩
  ·exact .inl l
  ·exact .inr ⟨k,c,e,cellK x c e _ z⟩
 ·obtain⟨v,z⟩:=I.cell x c e;exact⟨v,cellK x c e v z⟩
 ·obtain⟨m,⟨o,_,_,ho,_⟩,_⟩:=I.loc;exact free _ o (fun z=>(hch _ z).2.1 rfl) ho I.free
 ·obtain⟨v,o,ho,hd⟩:=I.cell x c e;exact free c o (fun z=>(hch c z).2.2.1 x c e rfl) ho (I.freeC x c e)
 ·obtain⟨e,n,ne,nf,d⟩:=I.pin p hp;have nch:p.1∉ch:=fun z=>(hch p.1 z).2.2.2 p hp rfl;exact⟨keep p.1 p.2 ne nf nch e n,free p.1 p.2 nch e n,ne,nf,d⟩
theorem Inv.un (I:Inv X pins σ H s)(u:Un X.fs [] H H' s.heap h')(hok:HOk X.prog X.w H' h'):Inv X pins σ H' { s with heap:=h',toks:=t' }:=by
 obtain⟨m,⟨o,es,ep,ho,r⟩,_⟩:=id I.loc;obtain⟨sl,hL⟩:=u.any ho I.free (by simp)
 exact I.step (g':=s.gens) (d':=s.drawn) (ch:=[]) (fun _ z=>nomatch z) (fun b o _ hb _ e n=>u.keep b o e n hb (by simp)) (fun b o _ hb _ e n=>u.slot b o e n hb (by simp)) (fun b o _ e n=>u.free b o e n (by simp)) (fun b o _ e=>u.there b o e (by simp)) u.tups u.frzs u.tbls (fun m' hm=>by
  obtain⟨o',es',ep',ho',r'⟩:=hm;rw[ho] at ho';cases ho'
  exact⟨_,es',ep',hL,r'⟩) hok I.bare
theorem Inv.call (I:Inv X pins σ H s)(u:Un (frs X.stack) ch H H' s.heap h')(hok:HOk X.prog X.w H' h')(hg:AllBare g')
  (hch:∀b∈ch,(b∈X.ex\/X.s₀.heap.objs.size<=b)/\b≠X.env.locals/\(∀x c,X.env.cells.lookup x=some c->c≠b)/\∀p∈X.pn++pins,p.1≠b) :
  Inv X pins σ H' { s with heap:=h',gens:=g',drawn:=d',toks:=t' }:=by
 obtain⟨m,⟨o,es,ep,ho,r⟩,_⟩:=id I.loc;obtain⟨sl,hL⟩:=u.any ho I.free fun z=>(hch _ z).2.1 rfl
 exact I.step (ch:=ch) hch (fun b o hL hb hc e n=>u.keep b o e n (fun z=>(List.mem_cons.mp (I.stkSub b z)).elim hL hb) hc) (fun b o _ _ hc e n=>u.any e n hc) (fun b o hc e n=>u.free b o e n hc) (fun b o hc e=>u.there b o e hc) u.tups u.frzs u.tbls (fun m' hm=>by
  obtain⟨o',es',ep',ho',r'⟩:=hm;rw[ho] at ho';cases ho'
  exact⟨_,es',ep',hL,r'⟩) hok hg
theorem Inv.turned (I:Inv X pins σ H s)(k:∀b o,b≠it->s.heap.get? b=some o->h'.get? b=some o)(hn:H it=none)(hL:it≠X.env.locals)
  (h1:it∈X.ex\/X.s₀.heap.objs.size<=it) (h2:∀x c,X.env.cells.lookup x=some c->c≠it) (h3:∀p∈X.pn++pins,p.1≠it):Inv X pins σ H { s with heap:=h',toks:=t' }:=by
 have nit:∀b u,H b=some u->b≠it:=fun b u e z=>by rw[z,hn] at e;cases e
 refine I.step (g':=s.gens) (d':=s.drawn) (ch:=[it]) (fun b hb=>?_) (fun b o _ _ hc e _=>k b o (fun z=>hc (by simp[z])) e) (fun b o _ _ hc e _=>⟨o.slots,k b o (fun z=>hc (by simp[z])) e⟩) (fun _ _ _ _ n=>n)
  (fun b o hc e=>⟨o,k b o (fun z=>hc (by simp[z])) e⟩) (fun _ _ e=>e) (fun _ _ _ e=>e) (fun b ps e=>⟨#[],by rw[e];simp⟩) (fun m hm=>?_) (fun b u e=>?_) I.bare
 ·have e:b=it:=by simpa using hb
  subst e;exact⟨h1,hL,h2,h3⟩
 ·obtain⟨o,es,ep,ho,r⟩:=hm;exact⟨o,es,ep,k _ o (A4m hL) ho,r⟩
 ·refine(I.hok b u e).stay (fun c v hc q=>k c v ?_ q) (fun _ q=>q) fun _ _ q=>q
  rcases hc with z|z
  ·rw[z];exact nit b u e
  ·exact nit c _ z
theorem Inv.tok (I:Inv X pins σ H s)(t:Nat):Inv X pins σ H { s with toks:=t }:=I.un (h':=s.heap) (t':=t) Un.refl I.hok
theorem Inv.kept {t':Nat}(I:Inv X pins σ H s)(k:∀b u,s.heap.get? b=some u->h'.get? b=some u):Inv X pins σ H { s with heap:=h',toks:=t' }:=I.un (Un.kept k) (I.hok.kept k)
theorem Inv.laid {a:Addr}{o:HO}{t':Nat}(I:Inv X pins σ H s)(k:∀b u,s.heap.get? b=some u->h'.get? b=some u)(hp:s.heap.objs.size<=a)(new:a8s X.prog X.w (upd H a o) h' a o) :
  Inv X pins σ (upd H a o) { s with heap:=h',toks:=t' }:=I.un (Un.laid k hp (I.hok.fresh hp)) (I.hok.laid k hp new)
theorem Inv.write {x e:Addr}{o:HO}{t':Nat}(I:Inv X pins σ H s)(mu:Mut (H x))(he:e=x\/H e=some (.own x))(k:∀b u,b≠e->s.heap.get? b=some u->h'.get? b=some u)(heo:∃u,h'.get? e=some u)
  (new:a8s X.prog X.w (upd H x o) h' x o):Inv X pins σ (upd H x o) { s with heap:=h',toks:=t' }:=I.un (Un.write mu he k heo) (I.hok.write mu he k heo new)
theorem Inv.pins_of {pins':List (Addr×Obj)}(I:Inv X pins σ H s)(h:∀p∈pins',s.heap.get? p.1=some p.2/\H p.1=none/\p.1≠X.env.locals/\p.1∉X.fs/\∀v,p.2.data≠.cell v):Inv X pins' σ H s:=
 ⟨I.ok,I.os,I.bare,I.base,I.loc,I.cell,I.free,I.freeC,fun p hp=>(List.mem_append.mp hp).elim (fun z=>I.pin p (A2g _ z)) (h p),I.hok,I.len⟩
theorem nodup_ix (hN:N.Nodup)(a:N[i]? = some x)(b:N[j]? = some x):i=j:=by
 obtain⟨h1,e1⟩:=List.getElem?_eq_some_iff.mp a;obtain⟨h2,e2⟩:=List.getElem?_eq_some_iff.mp b;exact(List.getElem_inj hN).mp (e1.trans e2.symm)
theorem store_ok2 {E:Value->Shared->Prop}{v:V}{Q:Unit->Shared->Prop}(I:Inv X pins σ H s)(hN:X.N.Nodup)(hi:X.N[i]? = some x)(hx:Loc X.env.scope x)(r:a8e v u)
  (h:∀s',Inv X pins (σ.set i (some v)) H s'->(∃a,A5h a s.heap s'.heap/\(a=X.env.locals\/X.env.cells.lookup x=some a))->Q () s') (hf:X.fn x=true\/X.env.scope.names.lookup x=some .local:=by first|exact .inl rfl|exact .inr rfl|assumption):wpAny M A (storeName X.env x u) Q E s:=by
 obtain⟨m,hn,hl⟩:=id I.loc;have hcls:(X.env.scope.kind==.class||(X.env.scope.kind==.module&&X.env.locals != X.env.globals))=false:=by rw[I.ok.kind];rfl
 have hiσ:i<σ.length:=by rw[I.len];exact(List.getElem?_eq_some_iff.mp hi).1
 have cne:=I.cne
 have tracked:∀{a:Addr} {h':Heap},(∃o,s.heap.get? a=some o/\H a=none)->A5h a s.heap h'->HOk X.prog X.w H h':=fun {a h'} ha hs b ob e=>by
  obtain⟨_,_,hfree⟩:=ha;refine(I.hok b ob e).stay (fun c w' hc q=>(hs.2 c ?_).trans q) (fun _ q=>q) fun _ _ q=>q;rintro rfl
  rcases hc with rfl|hc
  ·rw[hfree] at e;cases e
  ·rw[hfree] at hc;cases hc
 rcases hx with hk|hk
 ·refine wpAny_storeName_local hk hn (fun h' hn' hs=>?_) hcls;obtain⟨oL,_,_,hoL,_⟩:=id hn;refine h _ ⟨I.ok,I.os,I.bare,⟨fun b o e n hb hx=>?_,fun b o e n hb hx=>?_,I.base.free,fun b o e hx=>?_,I.base.tups,I.base.frzs,I.base.tbls⟩,⟨_,hn',fun j y v' e1 e2 e3=>?_⟩,fun y c e=>?_,I.free,I.freeC,fun p hp=>?_,tracked ⟨oL,hoL,I.free⟩ hs,by simpa using I.len⟩ ⟨_,hs,.inl rfl⟩
  ·exact(hs.2 b (A2r (A0c (A0y e) I.ok.above))).trans (I.base.keep b o e n hb hx)
  ·obtain⟨sl,e1⟩:=I.base.slot b o e n hb hx;exact⟨sl,(hs.2 b (A2r (A0c (A0y e) I.ok.above))).trans e1⟩
  ·obtain⟨o',e1⟩:=I.base.there b o e hx;exact⟨o',(hs.2 b (A2r (A0c (A0y e) I.ok.above))).trans e1⟩
  ·by_cases hj:j=i
   ·subst hj;rw[hi] at e1;cases e1;rw[List.getElem?_set_self hiσ] at e2;cases e2;exact⟨u,r,.inl ⟨hk,by simp⟩⟩
   ·rw[List.getElem?_set_ne (A4m hj)] at e2;obtain⟨u',r',q⟩:=hl j y v' e1 e2 e3;refine⟨u',r',?_⟩
    rcases q with ⟨k,e⟩|⟨k,c,e,z⟩
    ·refine .inl ⟨k,?_⟩;have:y≠x:=fun e=>hj (nodup_ix hN e1 (e▸hi));simp[this,e]
    ·exact .inr ⟨k,c,e,z.sameBut hs (cne y c e)⟩
  ·obtain⟨w',z⟩:=I.cell y c e;exact⟨w',z.sameBut hs (cne y c e)⟩
  ·obtain⟨e,n,ne,nf,d⟩:=I.pin p hp;exact⟨(hs.2 p.1 ne).trans e,n,ne,nf,d⟩
 ·have hfn:X.fn x=true:=by
   rcases hf with z|z
   ·exact z
   ·rw[z] at hk;cases hk
  obtain⟨c,hc⟩:=I.ok.has x (.inl hk);obtain⟨w',z⟩:=I.cell x c hc;refine wpAny_storeName_cell I.ok.kind hk hc z (fun h' hc' hs=>?_);obtain⟨oc,hoc,hocd⟩:=id z;refine h { s with heap:=h' } ⟨I.ok,I.os,I.bare,⟨fun b o e n hb hx=>?_,fun b o e n hb hx=>?_,I.base.free,fun b o e hx=>?_,I.base.tups,I.base.frzs,I.base.tbls⟩,⟨m,hn.sameBut hs (A4m (cne x c hc)),fun j y v' e1 e2 e3=>?_⟩,fun y c' e=>?_,I.free,I.freeC,fun p hp=>?_,tracked ⟨oc,hoc,I.freeC x c hc⟩ hs,by simpa using I.len⟩ ⟨c,hs,.inr hc⟩
  ·exact(hs.2 b (A2r (A0c (A0y e) (I.ok.cab x c hfn hc)))).trans (I.base.keep b o e n hb hx)
  ·obtain⟨sl,e1⟩:=I.base.slot b o e n hb hx;exact⟨sl,(hs.2 b (A2r (A0c (A0y e) (I.ok.cab x c hfn hc)))).trans e1⟩
  ·obtain⟨o',e1⟩:=I.base.there b o e hx;exact⟨o',(hs.2 b (A2r (A0c (A0y e) (I.ok.cab x c hfn hc)))).trans e1⟩
  ·by_cases hj:j=i
   ·subst hj;rw[hi] at e1;cases e1;rw[List.getElem?_set_self hiσ] at e2;cases e2;exact⟨u,r,.inr ⟨.inl hk,c,hc,hc'⟩⟩
   ·rw[List.getElem?_set_ne (A4m hj)] at e2;obtain⟨u',r',q⟩:=hl j y v' e1 e2 e3;refine⟨u',r',?_⟩
    rcases q with q|⟨k,c',e,z'⟩
    ·exact .inl q
    ·refine .inr ⟨k,c',e,z'.sameBut hs ?_⟩;rintro rfl;exact hj (nodup_ix hN e1 (I.ok.inj _ _ _ e hc▸hi))
  ·by_cases hcc:c'=c
   ·subst hcc;exact⟨_,hc'⟩
   ·obtain⟨w2,z2⟩:=I.cell y c' e;exact⟨w2,z2.sameBut hs hcc⟩
  ·obtain⟨e,n,ne,nf,d⟩:=I.pin p hp;refine⟨(hs.2 p.1 ?_).trans e,n,ne,nf,d⟩;intro q;rw[q,hoc] at e;have q':oc=p.2:=A0s e;exact d w' (by rw[<- q'];exact hocd)
theorem store_ok {E:Value->Shared->Prop}{v:V}{Q:Unit->Shared->Prop}(I:Inv X pins σ H s)(hN:X.N.Nodup)(hi:X.N[i]? = some x)(hx:Loc X.env.scope x)(r:a8e v u)
  (h:∀s',Inv X pins (σ.set i (some v)) H s'->Q () s') (hf:X.fn x=true\/X.env.scope.names.lookup x=some .local:=by first|exact .inl rfl|exact .inr rfl|assumption):wpAny M A (storeName X.env x u) Q E s:=
 store_ok2 I hN hi hx r (fun s' I' _=>h s' I') hf
theorem Inv.call' {s':Shared}(I:Inv X pins σ H s)(ho:s'.os=s.os)(u:Un (frs X.stack) ch H H' s.heap s'.heap)(hok:HOk X.prog X.w H' s'.heap)(hg:AllBare s'.gens)
  (hch:∀b∈ch,(b∈X.ex\/X.s₀.heap.objs.size<=b)/\b≠X.env.locals/\(∀x c,X.env.cells.lookup x=some c->c≠b)/\∀p∈X.pn++pins,p.1≠b):Inv X pins σ H' s':=by
 obtain⟨h',g',d',t',o'⟩:=s';have e:o'=s.os:=ho;subst e;exact I.call (g':=g') (t':=t') (d':=d') u hok hg hch
end
abbrev XK:=Value->Option Addr->Hp->Prop
abbrev St:=List (Option V)
abbrev VK:=V->Hp->Prop
abbrev TE:=St->Hp->VK->Prop
abbrev TT:=St->Hp->(Bool->Hp->Prop)->Prop
abbrev TA:=St->Hp->(List V->Hp->Prop)->Prop
structure c4x where
 nx:St->Hp->Prop
 rt:VK
 bk:St->Hp->Prop:=fun _ _=>False
 ct:St->Hp->Prop:=fun _ _=>False
abbrev TS:=c4x->St->Hp->Prop
def EP (X:Cx)(pins:List (Addr×Obj))(σ:St)(Q:VK)(u:Value)(s':Shared):Prop:=∃v H',Inv X pins σ H' s'/\a8e v u/\Q v H'
def TP (X:Cx)(pins:List (Addr×Obj))(σ:St)(Q:Bool->Hp->Prop)(b:Bool)(s':Shared):Prop:=∃H',Inv X pins σ H' s'/\Q b H'
def AP (X:Cx)(pins:List (Addr×Obj))(σ:St)(Q:List V->Hp->Prop)(us:List Value)(s':Shared):Prop:=∃vs H',Inv X pins σ H' s'/\a5q vs us/\Q vs H'
def SP (X:Cx)(pins:List (Addr×Obj))(D:c4x)(f:Flow)(s':Shared):Prop:=
 match f with
 | .next=>∃σ' H',Inv X pins σ' H' s'/\D.nx σ' H'
 | .brk=>∃σ' H',Inv X pins σ' H' s'/\D.bk σ' H'
 | .cont=>∃σ' H',Inv X pins σ' H' s'/\D.ct σ' H'
 | .ret u=>∃v σ' H',Inv X pins σ' H' s'/\a8e v u/\D.rt v H'
def PE (X:Cx)(e:Expr)(t:TE):Prop:=
 ∀(pins:List (Addr×Obj)) (s:Shared) (σ:St) (H:Hp) (Q:VK),Inv X pins σ H s->t σ H Q->wpAny (model X.prog X.w) X.A (eval e X.env) (EP X pins σ Q) X.xe s
def PT (X:Cx)(e:Expr)(t:TT):Prop:=
 ∀(pins:List (Addr×Obj)) (s:Shared) (σ:St) (H:Hp) (Q:Bool->Hp->Prop),Inv X pins σ H s->t σ H Q->wpAny (model X.prog X.w) X.A (isTrue e X.env (eval e X.env)) (TP X pins σ Q) X.xe s
def PW (X:Cx)(e:Expr)(t:TT):Prop:=
 ∀(whole:Sem Value) (pins:List (Addr×Obj)) (s:Shared) (σ:St) (H:Hp) (Q:Bool->Hp->Prop),Inv X pins σ H s->t σ H Q->wpAny (model X.prog X.w) X.A (isTrue e X.env whole) (TP X pins σ Q) X.xe s
theorem PW.pt {X:Cx}{t:TT}(h:PW X e t):PT X e t:=h _
def PA (X:Cx)(es:List Expr)(t:TA):Prop:=
 ∀(pos:Pos) (pins:List (Addr×Obj)) (s:Shared) (σ:St) (H:Hp) (Q:List V->Hp->Prop),Inv X pins σ H s->t σ H Q->wpAny (model X.prog X.w) X.A (spliced (backTo pos (starEach es X.env))) (AP X pins σ Q) X.xe s
def PS (X:Cx)(st:Stmt)(t:TS):Prop:=
 ∀(pins:List (Addr×Obj)) (s:Shared) (σ:St) (H:Hp) (D:c4x),Inv X pins σ H s->t D σ H->wpAny (model X.prog X.w) X.A (exec st X.env) (SP X pins D) X.xe s
def PSs (X:Cx)(st:List Stmt)(t:TS):Prop:=
 ∀(pins:List (Addr×Obj)) (s:Shared) (σ:St) (H:Hp) (D:c4x),Inv X pins σ H s->t D σ H->wpAny (model X.prog X.w) X.A (execs st X.env) (SP X pins D) X.xe s
theorem thn {α:Type}{t:Sem α}{Q Q':α->Shared->Prop}{E:Value->Shared->Prop}(h:wpAny M A t Q E s)(hQ:∀a s,Q a s->Q' a s):wpAny M A t Q' E s:=A2u h hQ fun _ _ x=>x
section
variable {X:Cx}
def tVar (i:Nat):TE:=fun σ H Q=>∃v,σ[i]? = some (some v)/\Q v H
def tC (v:V):TE:=fun _ H Q=>Q v H
theorem pe_var (hN:X.N[i]? = some x)(hv:Vis X.env.scope x)(hd:(x==("__debug__":Str))=false:=by decide)(hcd:(x==("__classdict__":Str))=false:=by decide):PE X (.Name x pos) (tVar i):=by
 intro pins s σ H Q I h;obtain⟨v,e,h⟩:=h;obtain⟨m,hn,hl⟩:=I.loc;obtain⟨u,r,l⟩:=hl i x v hN e hv;have fin:EP X pins σ Q u s:=⟨v,H,I,r,h⟩
 rcases l with ⟨hk,hm⟩|⟨hk,c,hc,hcell⟩
 ·exact wpAny_Name (wpAny_loadName_local I.ok.kind hk hn hm fin) hd
 ·rcases hk with hk|hk
  ·exact wpAny_Name (wpAny_loadName_cell I.ok.kind hk hc hcell fin) hd
  ·exact wpAny_Name (wpAny_loadName_free I.ok.kind hk hc hcell fin hcd) hd
theorem a0h {i j pos}:PE X (.Constant (.int i) j pos) (tC (.int i)):=fun _ _ _ H _ I h=>wpAny_Constant_int ⟨.int i,H,I.tok _,⟨_,rfl⟩,h⟩
theorem c2n {b j pos}:PE X (.Constant (.bool b) j pos) (tC (.bl b)):=fun _ _ _ H _ I h=>Constant_bool ⟨.bl b,H,I,rfl,h⟩
theorem c1q {j pos}:PE X (.Constant .none j pos) (tC .non):=fun _ _ _ H _ I h=>Constant_none ⟨.non,H,I,rfl,h⟩
theorem a1h {x j pos}:PE X (.Constant (.str x) j pos) (tC (.str x)):=fun _ _ _ H _ I h=>Calls.Constant_str ⟨.str x,H,I.tok _,⟨_,rfl⟩,h⟩
def Gl (X:Cx)(x:Str):Prop:=X.env.kindOf x=some .globalImplicit
theorem c8b {E:Value->Shared->Prop}{σ:St}{H:Hp}{Q:Value->Shared->Prop}(I:Inv X pins σ H s)(hg:Gl X x)(hm:X.mg x=some u)(h:Q u s)
  (hd:(x==("__debug__":Str))=false:=by decide):wpAny (model X.prog X.w) X.A (eval (.Name x pos) X.env) Q E s:=
 A8t I.ok.kind hg (Calls.loadGlobal_global (by rw[I.ok.glob];exact I.mod.glob.keeps I.bk) hm h) hd
theorem c4f {E:Value->Shared->Prop}{σ:St}{H:Hp}{Q:Value->Shared->Prop}(I:Inv X pins σ H s)(hg:Gl X x)(hm:X.mg x=none)(hv:bootBuiltins x=some u)(h:Q u s)
  (hn:x ≠ "__name__":=by decide) (hd:(x==("__debug__":Str))=false:=by decide):wpAny (model X.prog X.w) X.A (eval (.Name x pos) X.env) Q E s:=by
 obtain⟨mb,h1,h2⟩:=I.mod.blt;exact A8t I.ok.kind hg (Calls.loadGlobal_builtin (by rw[I.ok.glob];exact I.mod.glob.keeps I.bk) hm (by rw[I.ok.blt];exact h1.keeps I.bk) ((h2 x hn).trans hv) h) hd
theorem pe_glob {v:V}(hg:Gl X x)(hm:X.mg x=some u)(r:a8e v u)(hd:(x==("__debug__":Str))=false:=by decide):PE X (.Name x pos) (tC v):=
 fun _ _ _ H _ I h=>c8b I hg hm ⟨v,H,I,r,h⟩ hd
theorem pe_bltn {v:V}(hg:Gl X x)(hm:X.mg x=none)(hv:bootBuiltins x=some u)(r:a8e v u)(hn:x ≠ "__name__":=by decide)(hd:(x==("__debug__":Str))=false:=by decide):PE X (.Name x pos) (tC v):=
 fun _ _ _ H _ I h=>c4f I hg hm hv ⟨v,H,I,r,h⟩ hn hd
variable {a b:Expr}{ta tb:TE}{pos:Pos}
def tB (t:TE):TT:=fun σ H Q=>t σ H fun x H1=>∃c,x=.bl c/\Q c H1
theorem a3t {t:TE}(h:PE X e t)(he:∀whole,isTrue e X.env whole=(do let v <- whole;standAt e.pos;holding [v] (truthy v)):=by intro _;rfl):PT X e (tB t):=by
 intro pins s σ H Q I hw;refine isTrue_plain (thn (h pins s σ H _ I hw) fun v s1 ⟨x,H1,I1,r1,q1⟩=>?_) (he _);obtain⟨d,rfl,q⟩:=q1;cases r1;exact A5c ⟨H1,I1,q⟩
variable {tA tB':TT}{b1g:List Expr}
def tAnd (t u:TT):TT:=fun σ H Q=>t σ H fun c H1=>if c=true then u σ H1 Q else Q false H1
def tOr (t u:TT):TT:=fun σ H Q=>t σ H fun c H1=>if c=true then Q true H1 else u σ H1 Q
def tNot (t:TT):TT:=fun σ H Q=>t σ H fun c H1=>Q (!c) H1
theorem pw_and1 (ha:PT X a tA):PW X (.BoolOp .And [a] pos) tA:=by
 intro wh pins s σ H Q I h;refine isTrue_and (thn (ha pins s σ H Q I h) fun c s1 e=>?_)
 cases c with
 | true=>exact isTrue_and_nil e
 | false=>exact e
theorem b0y (ha:PT X a tA):PW X (.BoolOp .Or [a] pos) tA:=by
 intro wh pins s σ H Q I h;refine isTrue_or (thn (ha pins s σ H Q I h) fun c s1 e=>?_)
 cases c with
 | false=>exact isTrue_or_nil e
 | true=>exact e
theorem pw_and (ha:PT X a tA)(hb:PW X (.BoolOp .And (b::b1g) pos) tB'):PW X (.BoolOp .And (a::b::b1g) pos) (tAnd tA tB'):=by
 intro wh pins s σ H Q I h;refine isTrue_and (thn (ha pins s σ H _ I h) fun c s1 hq9=>?_);obtain⟨H1,I1,q1⟩:=hq9
 cases c with
 | true=>exact hb wh pins s1 σ H1 Q I1 q1
 | false=>exact⟨H1,I1,q1⟩
theorem b1h (ha:PT X a tA)(hb:PW X (.BoolOp .Or (b::b1g) pos) tB'):PW X (.BoolOp .Or (a::b::b1g) pos) (tOr tA tB'):=by
 intro wh pins s σ H Q I h;refine isTrue_or (thn (ha pins s σ H _ I h) fun c s1 hq9=>?_);obtain⟨H1,I1,q1⟩:=hq9
 cases c with
 | true=>exact⟨H1,I1,q1⟩
 | false=>exact hb wh pins s1 σ H1 Q I1 q1
theorem a4g (ha:PT X a tA):PT X (.UnaryOp .Not a pos) (tNot tA):=by
 intro pins s σ H Q I h;exact isTrue_not (ha pins s σ H (fun c H1=>Q (!c) H1) I h)
def tAndV (ta tb:TE):TE:=fun σ H Q=>ta σ H fun x H1=>∃c,x=.bl c/\if c=true then tb σ H1 Q else Q (.bl false) H1
def tNotV (ta:TE):TE:=fun σ H Q=>ta σ H fun x H1=>∃c,x=.bl c/\Q (.bl (!c)) H1
theorem pe_one {op}{t:TE}(h:PE X a t):PE X (.BoolOp op [a] pos) t:=fun pins s σ H Q I hw=>BoolOp_one (h pins s σ H Q I hw)
theorem pe_and (ha:PE X a ta)(hb:PE X (.BoolOp .And (b::b1g) pos) tb):PE X (.BoolOp .And (a::b::b1g) pos) (tAndV ta tb):=by
 intro pins s σ H Q I h;refine BoolOp_and (thn (ha pins s σ H _ I h) fun v s1 hq9=>?_);obtain⟨x,H1,I1,r1,q1⟩:=hq9;obtain⟨c,rfl,q1⟩:=q1;cases r1;refine A5c ?_
 cases c with
 | true=>exact hb pins s1 σ H1 Q I1 q1
 | false=>exact⟨.bl false,H1,I1,rfl,q1⟩
theorem pe_not (ha:PE X a ta):PE X (.UnaryOp .Not a pos) (tNotV ta):=by
 intro pins s σ H Q I h;refine UnaryOp_ (thn (ha pins s σ H _ I h) fun v s1 hq9=>?_);obtain⟨x,H1,I1,r1,q1⟩:=hq9;obtain⟨c,rfl,q1⟩:=q1;cases r1;exact not_of (A5c ⟨.bl (!c),H1,I1,rfl,q1⟩)
def tIf (t:TT)(ta tb:TE):TE:=fun σ H Q=>t σ H fun c H1=>if c=true then ta σ H1 Q else tb σ H1 Q
theorem c6k (hc:PT X c tA)(ha:PE X a ta)(hb:PE X b tb):PE X (.IfExp c a b pos) (tIf tA ta tb):=by
 intro pins s σ H Q I h;refine wpAny_IfExp (thn (hc pins s σ H _ I h) fun d s1 hq9=>?_);obtain⟨H1,I1,q1⟩:=hq9
 cases d with
 | true=>exact ha pins s1 σ H1 Q I1 q1
 | false=>exact hb pins s1 σ H1 Q I1 q1
end
def SqL (K:A0a)(H:Hp)(a:Addr)(xs:List V):Prop:=
 Rd H a (.lst xs)\/
  ∃(o:Obj) (its:Array Value) (n:Nat),K.lookup a=some o/\o.cls=.type "list"/\o.dict=none/\o.data=.seq its n/\its.size<=sizeLine/\a5q xs its.toList
def SqT (K:A0a)(H:Hp)(a:Addr)(xs:List V):Prop:=
 Rd H a (.tup xs)\/
  ∃(o:Obj) (its:Array Value) (n:Nat),K.lookup a=some o/\o.cls=.type "tuple"/\o.data=.seq its n/\its.size<=sizeLine/\a5q xs its.toList
def absV:Value->Option V
 | .none=>some .non
 | .bool b=>some (.bl b)
 | .int i _=>some (.int i)
 | .str x _=>some (.str x)
 | .bytes b _=>some (.byt b)
 | .float b _=>some (.flt b)
 | .ref a=>some (.ref a)
 | .type n=>some (.ty n)
 | _=>none
theorem a8e.abs {x:V}(r:a8e x u):absV u=some x:=by
 cases x with
 | non=>cases r;rfl
 | bl _=>cases r;rfl
 | int _=>obtain⟨t,rfl⟩:=r;rfl
 | str _=>obtain⟨t,rfl⟩:=r;rfl
 | byt _=>obtain⟨t,rfl⟩:=r;rfl
 | flt _=>obtain⟨t,rfl⟩:=r;rfl
 | ref _=>cases r;rfl
 | ty _=>cases r;rfl
theorem a8e.inj {x y:V}(r:a8e x u)(q:a8e y u):x=y:=A0s (r.abs.symm.trans q.abs)
theorem a5q.inj:∀{xs ys:List V} {us:List Value},a5q xs us->a5q ys us->xs=ys
 | _,_,_,.nil,.nil=>rfl
 | _,_,_,.cons r t,.cons r' t'=>by rw[r.inj r',a5q.inj t t']
section
variable {X:Cx}{pins:List (Addr×Obj)}{σ:St}{H:Hp}{s:Shared}{a:Addr}{xs ys:List V}
theorem SqL.of (h:H a=some (.lst xs)):SqL K H a xs:=.inl (.inl h)
theorem SqT.of (h:H a=some (.tup xs)):SqT K H a xs:=.inl (.inl h)
theorem Inv.list (I:Inv X pins σ H s)(h:SqL X.K H a xs):∃its:List Value,a5q xs its/\PlainL s.heap a its.toArray/\xs.length<=sizeLine:=by
 rcases h with h|⟨o,its,n,hk,hc,hd,hs,hz,r⟩
 ·obtain⟨z,its,n,r,e⟩:=h.ok I.hok;exact⟨its,r,⟨_,n,e,rfl,rfl,rfl⟩,z⟩
 ·refine⟨its.toList,r,⟨o,n,I.kIn a o hk,hc,hd,by simpa using hs⟩,?_⟩;have e:=r.length;simp only[A4b] at e;omega
theorem Inv.tuple (I:Inv X pins σ H s)(h:SqT X.K H a xs):∃its:List Value,a5q xs its/\IsTup s.heap a its.toArray/\xs.length<=sizeLine:=by
 rcases h with h|⟨o,its,n,hk,hc,hs,hz,r⟩
 ·obtain⟨z,its,r,p⟩:=h.ok I.hok;exact⟨its,r,p,z⟩
 ·refine⟨its.toList,r,⟨o,I.kIn a o hk,hc,n,by simpa using hs⟩,?_⟩;have e:=r.length;simp only[A4b] at e;omega
theorem Inv.list_inj (I:Inv X pins σ H s)(h:SqL X.K H a xs)(h':SqL X.K H a ys):xs=ys:=by
 obtain⟨its,r,⟨o,n,e,_,_,d⟩,_⟩:=I.list h;obtain⟨its',r',⟨o',n',e',_,_,d'⟩,_⟩:=I.list h';rw[e] at e';cases e';rw[d] at d'
 injection d' with d1 _
 have:its=its':=by simpa using congrArg Array.toList d1
 subst this;exact r.inj r'
theorem Inv.tuple_inj (I:Inv X pins σ H s)(h:SqT X.K H a xs)(h':SqT X.K H a ys):xs=ys:=by
 obtain⟨its,r,⟨o,e,_,n,d⟩,_⟩:=I.tuple h;obtain⟨its',r',⟨o',e',_,n',d'⟩,_⟩:=I.tuple h';rw[e] at e';cases e';rw[d] at d'
 injection d' with d1 _
 have:its=its':=by simpa using congrArg Array.toList d1
 subst this;exact r.inj r'
end
abbrev Cx.wish (X:Cx)(E:Value->Shared->Prop):Cx:={ X with xe:=E }
abbrev Cx.nox (X:Cx):Cx:=X.wish fun _ _=>False
theorem Cx.Ok.wish {X:Cx}(ok:X.Ok)(E:Value->Shared->Prop):(X.wish E).Ok:=
 ⟨ok.mod,ok.kind,ok.glob,ok.blt,ok.above,ok.inj,ok.has,ok.cab,ok.hd,ok.frames,ok.stk,ok.exf,ok.bs,ok.bsz,ok.noex,ok.exfs,ok.funs,ok.frf⟩
theorem Cx.Ok.unwish {X:Cx}{E:Value->Shared->Prop}(ok:(X.wish E).Ok):X.Ok:=
 ⟨ok.mod,ok.kind,ok.glob,ok.blt,ok.above,ok.inj,ok.has,ok.cab,ok.hd,ok.frames,ok.stk,ok.exf,ok.bs,ok.bsz,ok.noex,ok.exfs,ok.funs,ok.frf⟩
section
variable {X:Cx}{pins:List (Addr×Obj)}{σ:St}{H:Hp}{s:Shared}{E:Value->Shared->Prop}
theorem Inv.wish (I:Inv X pins σ H s)(E:Value->Shared->Prop):Inv (X.wish E) pins σ H s:=⟨I.ok.wish E,I.os,I.bare,I.base,I.loc,I.cell,I.free,I.freeC,I.pin,I.hok,I.len⟩
theorem Inv.unwish (I:Inv (X.wish E) pins σ H s):Inv X pins σ H s:=⟨I.ok.unwish,I.os,I.bare,I.base,I.loc,I.cell,I.free,I.freeC,I.pin,I.hok,I.len⟩
theorem SP.unwish {D:c4x}{f:Flow}{s':Shared}(h:SP (X.wish E) pins D f s'):SP X pins D f s':=by
 cases f with
 | next=>obtain⟨σ',H',I,q⟩:=h;exact⟨σ',H',I.unwish,q⟩
 | brk=>obtain⟨σ',H',I,q⟩:=h;exact⟨σ',H',I.unwish,q⟩
 | cont=>obtain⟨σ',H',I,q⟩:=h;exact⟨σ',H',I.unwish,q⟩
 | ret u=>obtain⟨v,σ',H',I,r,q⟩:=h;exact⟨v,σ',H',I.unwish,r,q⟩
theorem PSs.nox {st:List Stmt}{t:TS}(h:PSs X.nox st t):PSs X st t:=fun pins s σ H D I hw=>
 A2u (h pins s σ H D (I.wish _) hw) (fun _ _ q=>q.unwish) fun _ _ z=>A4c z
end
section
variable {X:Cx}{st:Stmt}{b1g:List Stmt}{t u:TS}{e:Expr}{te:TE}{pos:Pos}
def tNext:TS:=fun D σ H=>D.nx σ H
def tSeq (t u:TS):TS:=fun D σ H=>t { D with nx:=u D } σ H
theorem a0x:PSs X [] tNext:=fun _ _ σ H _ I h=>A5w ⟨σ,H,I,h⟩
theorem a0b (h1:PS X st t)(h2:PSs X b1g u):PSs X (st::b1g) (tSeq t u):=by
 intro pins s σ H D I h;refine B0d (thn (h1 pins s σ H { D with nx:=u D } I h) fun f s1 q=>?_)
 cases f with
 | next=>
  obtain⟨σ',H',I',q⟩:=q;exact h2 pins s1 σ' H' D I' q
 | ret v=>exact q
 | brk=>exact q
 | cont=>exact q
theorem a0f (h1:PS X st t):PSs X [st] t:=by
 intro pins s σ H D I h;refine B0d (thn (h1 pins s σ H D I h) fun f s1 q=>?_)
 cases f with
 | next=>exact A5w q
 | ret v=>exact q
 | brk=>exact q
 | cont=>exact q
theorem Inv.quiet {σ:St}{H:Hp}(I:Inv X pins σ H s):interactive X.env=false:=by simp[interactive,I.ok.kind]
def tDrop (te:TE):TS:=fun D σ H=>te σ H fun _ H1=>D.nx σ H1
theorem a1w (he:PE X e te)(hs:swapsWith e none pos.line X.env=pure false:=by rfl):PS X (.Expr e pos) (tDrop te):=by
 intro pins s σ H D I h;exact wpAny_Expr_any (thn (he pins s σ H _ I h) fun v s1 ⟨x,H1,I1,r1,q1⟩=>⟨σ,H1,I1,q1⟩) I.quiet hs
def tRet (te:TE):TS:=fun D σ H=>te σ H D.rt
theorem a0t (he:PE X e te):PS X (.Return (some e) pos) (tRet te):=by
 intro pins s σ H D I h;exact wpAny_Return_some (thn (he pins s σ H _ I h) fun v s1 ⟨x,H1,I1,r1,q1⟩=>⟨x,σ,H1,I1,r1,q1⟩)
def tIfS (c:TT)(t u:TS):TS:=fun D σ H=>c σ H fun b H1=>if b=true then t D σ H1 else u D σ H1
theorem a2c {c:Expr}{a b:List Stmt}{tc:TT}(hc:PT X c tc)(ha:PSs X a t)(hb:PSs X b u):PS X (.If c a b pos) (tIfS tc t u):=by
 intro pins s σ H D I h;refine wpAny_If (thn (hc pins s σ H _ I h) fun d s1 hq9=>?_);obtain⟨H1,I1,q1⟩:=hq9
 cases d with
 | true=>exact ha pins s1 σ H1 D I1 q1
 | false=>exact hb pins s1 σ H1 D I1 q1
def tNever:TS:=fun _ _ _=>False
theorem a2h:PS X st tNever:=fun _ _ _ _ _ _ h=>h.elim
end
abbrev TG:=V->St->Hp->(St->Hp->Prop)->Prop
abbrev TGs:=List V->St->Hp->(St->Hp->Prop)->Prop
def PG (X:Cx)(target:Expr)(t:TG):Prop:=
 ∀(pins:List (Addr×Obj)) (s:Shared) (σ:St) (H:Hp) (v:V) (u:Value) (Q:St->Hp->Prop),Inv X pins σ H s->a8e v u->t v σ H Q->
  wpAny (model X.prog X.w) X.A (assign target X.env u) (fun _ s'=>∃σ' H',Inv X pins σ' H' s'/\Q σ' H') X.xe s
def PGs (X:Cx)(ts:List Expr)(t:TGs):Prop:=
 ∀(pins:List (Addr×Obj)) (s:Shared) (σ:St) (H:Hp) (vs:List V) (us:List Value) (Q:St->Hp->Prop),Inv X pins σ H s->a5q vs us->t vs σ H Q->
  wpAny (model X.prog X.w) X.A (assignInOrder ((assignEach ts X.env).map (·.2)) us) (fun _ s'=>∃σ' H',Inv X pins σ' H' s'/\Q σ' H') X.xe s
section
variable {X:Cx}{pos:Pos}
def gName (i:Nat):TG:=fun v σ H Q=>Q (σ.set i (some v)) H
theorem a1g (hN:X.N.Nodup)(hi:X.N[i]? = some x)(hx:Loc X.env.scope x)(hf:X.fn x=true\/X.env.scope.names.lookup x=some .local:=by first|exact .inl rfl|exact .inr rfl|assumption):PG X (.Name x pos) (gName i):=by
 intro pins s σ H v u Q I r h;exact wpAny_assign_Name (store_ok I hN hi hx r (fun s' I'=>⟨_,H,I',h⟩) hf)
def gNil:TGs:=fun vs σ H Q=>vs=[]/\Q σ H
def gCons (t:TG)(u:TGs):TGs:=fun vs σ H Q=>∃v r,vs=v::r/\t v σ H fun σ' H'=>u r σ' H' Q
theorem b2m:PGs X [] gNil:=by
 intro pins s σ H vs us Q I r h;obtain⟨e,h⟩:=h;subst e;cases r;exact assignInOrder_nil ⟨σ,H,I,h⟩
theorem a2b {t:TG}{u:TGs}(h1:PG X e t)(h2:PGs X es u)
  (hs:(assignEach (e::es) X.env).map (·.2)=assign e X.env::(assignEach es X.env).map (·.2):=by rfl):PGs X (e::es) (gCons t u):=by
 intro pins s σ H vs us Q I r h;obtain⟨v,vr,e1,h⟩:=h;subst e1
 cases r with
 | cons r rr=>
  rw[hs];refine assignInOrder_cons (thn (h1 pins s σ H _ _ _ I r h) fun _ s1 hq9=>?_);obtain⟨σ1,H1,I1,q1⟩:=hq9;exact h2 pins s1 σ1 H1 _ _ Q I1 rr q1
def gTup (K:A0a)(n:Nat)(t:TGs):TG:=fun v σ H Q=>∃a xs,v=.ref a/\SqT K H a xs/\xs.length=n/\t xs σ H Q
theorem b8n {t:TGs}{n:Nat}(hc:X.calm=true)(h:PGs X es t)
  (hn:(assignEach es X.env).length=n:=by rfl) (hst:(assignEach es X.env).findIdx? (·.1)=none:=by rfl):PG X (.Tuple es k pos) (gTup X.K n t):=by
 intro pins s σ H v u Q I r hw;obtain⟨a,xs,e1,hq,hl,hw⟩:=hw;subst e1;cases r;obtain⟨its,rv,ht,hz⟩:=I.tuple hq;refine assign_Tuple_tuple (I.ok.hd hc) ht (by simp[hn,<- hl,rv.length]) hst fun h' hx=>?_;have I1:Inv X pins σ H { s with heap:=h' }:=I.kept (t':=s.toks) fun b o e=>hx b o (A2r (A0y e)) e;exact h pins _ σ H xs _ Q I1 (by simpa using rv) hw
def tAsg (te:TE)(g:TG):TS:=fun D σ H=>te σ H fun x H1=>g x σ H1 D.nx
theorem ps_asg {te:TE}{g:TG}(he:PE X e te)(hg:PG X tg g)(hs:swapsWithSole [tg] e pos.line X.env=pure false:=by rfl)(hw:swappedStores [tg] e X.env=pure none:=by rfl)
  (h1:(assignEach [tg] X.env).map (·.2)=[assign tg X.env]:=by rfl):PS X (.Assign [tg] e pos) (tAsg te g):=by
 intro pins s σ H D I h;refine wpAny_Assign_stores (thn (he pins s σ H _ I h) fun v s1 ⟨x,H1,I1,r1,q1⟩=>?_) hs hw;rw[h1];exact thn (hg pins s1 σ H1 x v _ I1 r1 q1) fun _ s2 q=>q
theorem a0q {i:Nat}{x:Str}{e:Expr}{te:TE}{pos':Pos}(hN:X.N.Nodup)(hi:X.N[i]? = some x)(hx:Loc X.env.scope x)(he:PE X e te)(hs:swapsWith e (some (.Name x pos')) pos.line X.env=pure false:=by rfl)(hf:X.fn x=true\/X.env.scope.names.lookup x=some .local:=by first|exact .inl rfl|exact .inr rfl|assumption) :
  PS X (.Assign [.Name x pos'] e pos) (tAsg te (gName i)):=by
 intro pins s σ H D I h;refine wpAny_Assign_Name (thn (he pins s σ H _ I h) fun v s1 ⟨y,H1,I1,r1,q1⟩=>?_) hs;exact store_ok I1 hN hi hx r1 (fun s2 I2=>⟨_,H1,I2,q1⟩) hf
end
section
variable {X:Cx}{pos:Pos}
def tWhile (c:TT)(tb:TS):TS:=fun D σ H=>∃W:Nat->St->Hp->Prop,(∃m,W m σ H)/\∀m σ H,W m σ H->
 c σ H fun b H1=>if b=true then ∃N:St->Hp->Prop,(∀σ' H',N σ' H'->∃m',m'<m/\W m' σ' H')/\tb { D with nx:=N,ct:=N,bk:=D.nx } σ H1 else D.nx σ H1
theorem ps_while {tc:TT}{tb:TS}(hp:PassesOwn (model X.prog X.w) X.A X.env X.xe)(hc:PT X c tc)(hb:PSs X body tb):PS X (.While c body [] pos) (tWhile tc tb):=by
 intro pins s σ H D I h;obtain⟨W,⟨m0,w0⟩,turn⟩:=h;refine wpAny_While (codeAny_whileLoop (fun n s'=>∃σ' H',Inv X pins σ' H' s'/\W n σ' H') ?_ m0 ⟨σ,H,I,w0⟩);rintro n s1 ⟨σ1,H1,I1,w1⟩;refine A5d hp (thn (hc pins s1 σ1 H1 _ I1 (turn n σ1 H1 w1)) fun b s2 hq9=>?_);obtain⟨H2,I2,q2⟩:=hq9
 cases b with
 | true=>
  obtain⟨N,hN,q2⟩:=q2;rw[if_pos rfl];refine A5d hp (thn (hb pins s2 σ1 H2 _ I2 q2) fun f s3 q3=>?_)
  cases f with
  | next=>
   obtain⟨σ3,H3,I3,n3⟩:=q3;obtain⟨m',hm,w3⟩:=hN σ3 H3 n3;exact⟨m',hm,σ3,H3,I3,w3⟩
  | cont=>
   obtain⟨σ3,H3,I3,n3⟩:=q3;obtain⟨m',hm,w3⟩:=hN σ3 H3 n3;exact⟨m',hm,σ3,H3,I3,w3⟩
  | brk=>exact q3
  | ret v=>exact q3
 | false=>
  rw[if_neg A1a];exact A5w ⟨σ1,H2,I2,q2⟩
end
structure It where
 go:Nat->Hp->Prop
 yld:Nat->Hp->V->Hp->Prop
 stop:Nat->Hp->Prop
def FpOk (X:Cx)(pins:List (Addr×Obj))(H:Hp)(b:Addr):Prop:=
 H b=none/\b≠X.env.locals/\b∉X.fs/\(b∈X.ex\/X.s₀.heap.objs.size<=b)/\(∀x c,X.env.cells.lookup x=some c->c≠b)/\∀p∈X.pn++pins,p.1≠b
theorem Inv.fpOk {X:Cx}{σ:St}{H H':Hp}(I:Inv X pins σ H s)(hb:s.heap.objs.size<=b)(hn:H' b=none):FpOk X pins H' b:=by
 refine⟨hn,Nat.ne_of_gt (A0c I.lt hb),I.nofs hb,.inr (A1z I.sz hb),fun x c e z=>?_,fun p hp z=>?_⟩
 ·obtain⟨v,q⟩:=I.cell x c e;exact absurd (A0c q.lt (by rw[z];exact hb)) (A2z _)
 ·exact absurd (A0c (A0y (I.pin p hp).1) (by rw[z];exact hb)) (A2z _)
structure Turn (P:Program)(w:World)(K:A0a)(tg:Expr)(J:It)(fp:List Addr)(it:Addr)(tn:Nat->Heap->Prop):Prop where
 mem:it∈fp
 obj:∀i h,tn i h->∀b∈fp,∃o,h.get? b=some o/\∀v,o.data≠.cell v
 keep:∀i h h',tn i h->(∀b∈fp,∀o,h.get? b=some o->h'.get? b=some o)->tn i h'
 item:∀(X:Cx),X.prog=P->X.w=w->X.K=K->X.calm=true->∀(i:Nat) (pins:List (Addr×Obj)) (s:Shared) (σ:St) (H:Hp) (E:Value->Shared->Prop),Inv X pins σ H s->(∀b∈fp,FpOk X pins H b)->tn i s.heap->J.go i H->
  wpAny (model P w) X.A (pyNext (.ref it)) (fun r s1=>∃u,r=some u/\
   wpAny (model P w) X.A (letOwnedTupleGo tg (.ref it) u) (fun _ s2=>∃x H',Inv X pins σ H' s2/\a8e x u/\J.yld i H x H'/\tn (i+1) s2.heap/\∀b∈fp,H' b=none) E s1) E s
 done:∀(X:Cx),X.prog=P->X.w=w->X.K=K->X.calm=true->∀(i:Nat) (pins:List (Addr×Obj)) (s:Shared) (σ:St) (H:Hp) (E:Value->Shared->Prop),Inv X pins σ H s->(∀b∈fp,FpOk X pins H b)->tn i s.heap->J.stop i H->
  wpAny (model P w) X.A (pyNext (.ref it)) (fun r s1=>r=none/\Inv X pins σ H s1) E s
 self:∀(A:Around) (i:Nat) (s:Shared) (Q:Value->Shared->Prop) (E:Value->Shared->Prop),tn i s.heap->Q (.ref it) s->wpAny (model P w) A (pyIter (.ref it)) Q E s
abbrev TI:=St->Hp->(It->Hp->Prop)->Prop
def PIE (X:Cx)(pins:List (Addr×Obj))(σ:St)(tg:Expr)(R:It->Hp->Prop)(itv:Value)(s2:Shared):Prop:=
 ∃(it:Addr) (fp:List Addr) (tn:Nat->Heap->Prop) (J:It) (H':Hp),itv=.ref it/\Inv X pins σ H' s2/\Turn X.prog X.w X.K tg J fp it tn/\tn 0 s2.heap/\(∀b∈fp,FpOk X pins H' b)/\R J H'
def PI (X:Cx)(tg iter:Expr)(wi:TI):Prop:=
 ∀(pins:List (Addr×Obj)) (s:Shared) (σ:St) (H:Hp) (R:It->Hp->Prop),Inv X pins σ H s->wi σ H R->
  wpAny (model X.prog X.w) X.A (eval iter X.env) (fun v s1=>wpAny (model X.prog X.w) X.A (pyIter v) (PIE X pins σ tg R) X.xe s1) X.xe s
theorem go_of {E:Value->Shared->Prop}{n:String}{vs:Array Value}{Q:Unit->Shared->Prop}(ho:s.heap.get? it=some o)(hc:o.cls=.type n)(hd:o.data=.fields vs)
  (hn:["enumerate","zip","dict_itemiterator","dict_reverseitemiterator","odict_iterator","itertools.zip_longest","itertools.pairwise"].contains n=false) (hQ:Q () s):wpAny M A (letOwnedTupleGo tg (.ref it) u) Q E s:=by
 unfold letOwnedTupleGo
 cases tg<;>first
  | exact A1e hQ
  | (cases u<;>first
    | exact A1e hQ
    | (refine A0n (wpAny_load ho ?_)
       rw[hc,hd];show wpAny M A (if (["enumerate","zip","dict_itemiterator","dict_reverseitemiterator","odict_iterator","itertools.zip_longest","itertools.pairwise"].contains n&&vs[0]? == some (rawInt _))=true then _ else _) Q E s;rw[if_neg (by intro h;rw[hn,A9g] at h;cases h)]
       exact A1e hQ))
def Itl (K:A0a)(a:Addr):It:=
 ⟨fun i H=>∃xs x,SqL K H a xs/\xs[i]? = some x,fun i H x H'=>H'=H/\∀xs,SqL K H a xs->xs[i]? = some x,fun i H=>∃xs,SqL K H a xs/\xs.length<=i⟩
def Itt (K:A0a)(a:Addr):It:=
 ⟨fun i H=>∃xs x,SqT K H a xs/\xs[i]? = some x,fun i H x H'=>H'=H/\∀xs,SqT K H a xs->xs[i]? = some x,fun i H=>∃xs,SqT K H a xs/\xs.length<=i⟩
def Itr (lo:Int)(n:Nat):It:=⟨fun i _=>i<n,fun i H x H'=>H'=H/\x=.int (lo+i),fun i _=>n<=i⟩
theorem turn_list {w:World}(a it:Addr):Turn P w K tg (Itl K a) [it] it (fun i h=>h.IsListIter it a i) where
 mem:=by simp
 obj:=fun i h st b hb=>by
  have e:b=it:=by simpa using hb
  subst e;obtain⟨o,e,c,d⟩:=st;exact⟨o,e,fun v z=>by rw[d] at z;cases z⟩
 keep:=fun i h h' st k=>st.at fun o e=>k it (by simp) o e
 item:=by
  intro X hP hw hK hc i pins s σ H E I hf st hg;subst hP hw hK;obtain⟨xs,x,hq,hx⟩:=hg;obtain⟨its,rv,p,hz⟩:=I.list hq;obtain⟨u,hu,ru⟩:=rv.get hx;obtain⟨f0,f1,f2,f3,f4,f5⟩:=hf it (by simp);refine wpAny_pyNext_list_item st p.isList (x:=u) (by simpa using hu) fun h' st' sb=>?_;have I1:Inv X pins σ H { s with heap:=h' }:=I.turned (t':=s.toks) (fun b o hb e=>(sb.2 b hb).trans e) f0 f1 f3 f4 f5;obtain⟨o,e,c,d⟩:=id st';exact⟨u,rfl,go_of (s:={ s with heap:=h' }) e c d (by decide) ⟨x,H,I1,ru,⟨rfl,fun ys hy=>by rw[I.list_inj hy hq];exact hx⟩,st',fun b hb=>(hf b hb).1⟩⟩
 done:=by
  intro X hP hw hK hc i pins s σ H E I hf st hg;subst hP hw hK;obtain⟨xs,hq,hx⟩:=hg;obtain⟨its,rv,p,hz⟩:=I.list hq;obtain⟨f0,f1,f2,f3,f4,f5⟩:=hf it (by simp);have hl:=rv.length;exact wpAny_pyNext_list_end (I.ok.hd hc) st p.isList (by simp;omega) fun h' eb=>⟨rfl,I.turned (t':=s.toks) (fun b o hb e=>eb b o hb e) f0 f1 f3 f4 f5⟩
 self:=fun _ _ _ _ _ st h=>wpAny_pyIter_listiter st h
theorem turn_tuple {w:World}(a it:Addr):Turn P w K tg (Itt K a) [it] it (fun i h=>h.IsTupleIter it a i) where
 mem:=by simp
 obj:=fun i h st b hb=>by
  have e:b=it:=by simpa using hb
  subst e;obtain⟨o,e,c,d⟩:=st;exact⟨o,e,fun v z=>by rw[d] at z;cases z⟩
 keep:=fun i h h' st k=>st.at fun o e=>k it (by simp) o e
 item:=by
  intro X hP hw hK hc i pins s σ H E I hf st hg;subst hP hw hK;obtain⟨xs,x,hq,hx⟩:=hg;obtain⟨its,rv,p,hz⟩:=I.tuple hq;obtain⟨u,hu,ru⟩:=rv.get hx;obtain⟨f0,f1,f2,f3,f4,f5⟩:=hf it (by simp);refine wpAny_pyNext_tuple_item st (show s.heap.IsTuple a its.toArray from p) (x:=u) (by simpa using hu) fun h' st' sb=>?_;have I1:Inv X pins σ H { s with heap:=h' }:=I.turned (t':=s.toks) (fun b o hb e=>(sb.2 b hb).trans e) f0 f1 f3 f4 f5;obtain⟨o,e,c,d⟩:=id st';exact⟨u,rfl,go_of (s:={ s with heap:=h' }) e c d (by decide) ⟨x,H,I1,ru,⟨rfl,fun ys hy=>by rw[I.tuple_inj hy hq];exact hx⟩,st',fun b hb=>(hf b hb).1⟩⟩
 done:=by
  intro X hP hw hK hc i pins s σ H E I hf st hg;subst hP hw hK;obtain⟨xs,hq,hx⟩:=hg;obtain⟨its,rv,p,hz⟩:=I.tuple hq;obtain⟨f0,f1,f2,f3,f4,f5⟩:=hf it (by simp);have hl:=rv.length;exact wpAny_pyNext_tuple_end (I.ok.hd hc) st (show s.heap.IsTuple a its.toArray from p) (by simp;omega) fun h' eb=>⟨rfl,I.turned (t':=s.toks) (fun b o hb e=>eb b o hb e) f0 f1 f3 f4 f5⟩
 self:=fun _ _ _ _ _ st h=>wpAny_pyIter_tupleiter st h
theorem turn_range {w:World}(it:Addr)(lo:Int)(n:Nat):Turn P w K tg (Itr lo n) [it] it (fun i h=>IsRangeIter h it (lo+(i:Nat)*1) ((n:Int)-(i:Nat)) 1) where
 mem:=by simp
 obj:=fun i h st b hb=>by
  have e:b=it:=by simpa using hb
  subst e
  exact⟨_,st,fun v z=>by
   have z':Data.fields _=Data.cell v:=z
   cases z'⟩
 keep:=fun i h h' st k=>k it (by simp) _ st
 item:=by
  intro X hP hw hK hc i pins s σ H E I hf st hg;subst hP hw hK;obtain⟨f0,f1,f2,f3,f4,f5⟩:=hf it (by simp);have W:=Walks.range (prog:=X.prog) (w:=X.w) (I.ok.hd hc) it lo 1 n;refine W.item i s _ _ hg st fun v h' tk hv st' kk=>?_;obtain⟨t,rfl⟩:=hv;have I1:Inv X pins σ H { s with heap:=h',toks:=tk }:=I.turned (fun b o hb e=>kk b o (by simpa using hb) e) f0 f1 f3 f4 f5;refine⟨_,rfl,go_of (s:={ s with heap:=h',toks:=tk }) (n:="range_iterator") st' rfl rfl (by decide) ⟨.int (lo+i),H,I1,⟨t,?_⟩,⟨rfl,rfl⟩,st',fun b hb=>(hf b hb).1⟩⟩;rw[Int.mul_one]
 done:=by
  intro X hP hw hK hc i pins s σ H E I hf st hg;subst hP hw hK;obtain⟨f0,f1,f2,f3,f4,f5⟩:=hf it (by simp);exact wpAny_pyNext_range_end (I.ok.hd hc) st (by have:n<=i:=hg;omega) fun h' eb=>⟨rfl,I.turned (t':=s.toks) (fun b o hb e=>eb b o hb e) f0 f1 f3 f4 f5⟩
 self:=fun _ _ _ _ _ st h=>wpAny_pyIter_rangeiter st h
section
variable {X:Cx}{tg:Expr}
def iList (K:A0a)(tl:TE):TI:=fun σ H R=>tl σ H fun x H1=>∃a,x=.ref a/\(∃xs,SqL K H1 a xs)/\R (Itl K a) H1
def iTup (K:A0a)(tl:TE):TI:=fun σ H R=>tl σ H fun x H1=>∃a,x=.ref a/\(∃xs,SqT K H1 a xs)/\R (Itt K a) H1
theorem a1q {tl:TE}(hl:PE X l tl):PI X tg l (iList X.K tl):=by
 intro pins s σ H R I h;refine thn (hl pins s σ H _ I h) fun v s1 hq9=>?_;obtain⟨x,H1,I1,r1,q1⟩:=hq9;obtain⟨a,e,⟨xs,hq⟩,q⟩:=q1;subst e;cases r1;obtain⟨its,rv,p,hz⟩:=I1.list hq;refine wpAny_pyIter_list p.isList ?_;refine⟨s1.heap.objs.size,[s1.heap.objs.size],_,_,H1,rfl,I1.kept (t':=s1.toks) fun b o e=>Heap.get?_push_of_some _ e,turn_list a _,⟨_,Heap.get?_push_size _ rfl,rfl,rfl⟩,fun b hb=>?_,q⟩;have e:b=s1.heap.objs.size:=by simpa using hb
 subst e;exact I1.fpOk (A0k _) (I1.hok.fresh (A0k _))
theorem pi_tup {tl:TE}(hl:PE X l tl):PI X tg l (iTup X.K tl):=by
 intro pins s σ H R I h;refine thn (hl pins s σ H _ I h) fun v s1 hq9=>?_;obtain⟨x,H1,I1,r1,q1⟩:=hq9;obtain⟨a,e,⟨xs,hq⟩,q⟩:=q1;subst e;cases r1;obtain⟨its,rv,p,hz⟩:=I1.tuple hq;refine A8x (show s1.heap.IsTuple a its.toArray from p) ?_;refine⟨s1.heap.objs.size,[s1.heap.objs.size],_,_,H1,rfl,I1.kept (t':=s1.toks) fun b o e=>Heap.get?_push_of_some _ e,turn_tuple a _,⟨_,Heap.get?_push_size _ rfl,rfl,rfl⟩,fun b hb=>?_,q⟩;have e:b=s1.heap.objs.size:=by simpa using hb
 subst e;exact I1.fpOk (A0k _) (I1.hok.fresh (A0k _))
theorem range_it {σ:St}{H:Hp}{R:It->Hp->Prop}{E:Value->Shared->Prop}{hi:Int}{t u v:Tok}{tk:Nat}(I:Inv X pins σ H s)(h1:-(2^62)<=lo)(h2:lo<2^62)(h3:-(2^62)<=hi)(h4:hi<2^62)
  (q:R (Itr lo (hi-lo).toNat) H):wpAny (model X.prog X.w) X.A (pyIter (.ref s.heap.objs.size)) (PIE X pins σ tg R) E { s with heap:=s.heap.push { cls:=.type "range",data:=.fields #[.int lo t,.int hi u,.int 1 v] },toks:=tk }:=by
 refine wpAny_pyIter_range (IsRange.new ..) (small_one h1 h2 h3 h4) ?_;have I1:Inv X pins σ H { s with heap:=s.heap.push { cls:=.type "range",data:=.fields #[.int lo t,.int hi u,.int 1 v] },toks:=tk }:=I.kept fun b o e=>Heap.get?_push_of_some _ e
 refine⟨(s.heap.push { cls:=.type "range",data:=.fields #[.int lo t,.int hi u,.int 1 v] }).objs.size,[(s.heap.push { cls:=.type "range",data:=.fields #[.int lo t,.int hi u,.int 1 v] }).objs.size],_,_,H,rfl,
  I1.kept (t':=tk) fun b o e=>Heap.get?_push_of_some _ e,turn_range _ lo (hi-lo).toNat,?_,fun b hb=>?_,q⟩
 ·have e1:lo+((0:Nat):Int)*1=lo:=by simp
  have e2:(((hi-lo).toNat:Nat):Int)-((0:Nat):Int)=Builtin.Range.rangeSize lo hi 1:=by rw[rangeSize_one];split<;>omega
  show IsRangeIter _ _ (lo+((0:Nat):Int)*1) ((((hi-lo).toNat:Nat):Int)-((0:Nat):Int)) 1;rw[e1,e2];exact Heap.get?_push_size _ rfl
 ·have e:b=(s.heap.push { cls:=.type "range",data:=.fields #[.int lo t,.int hi u,.int 1 v] }).objs.size:=by simpa using hb
  subst e;exact I1.fpOk (A0k _) (I1.hok.fresh (A0k _))
def iRng1 (ta:TA):TI:=fun σ H R=>ta σ H fun vs H1=>∃j:Int,vs=[.int j]/\-(2^62)<=j/\j<2^62/\R (Itr 0 j.toNat) H1
def iRng2 (ta:TA):TI:=fun σ H R=>ta σ H fun vs H1=>∃i j:Int,vs=[.int i,.int j]/\(-(2^62)<=i/\i<2^62/\-(2^62)<=j/\j<2^62)/\R (Itr i (j-i).toNat) H1
theorem b1a {a:Expr}{ta:TA}(hg:Gl X "range")(hm:X.mg "range" = none)(ha:PA X [a] ta)(hs:starEach [a] X.env=[(false,eval a X.env)]:=by rfl):PI X tg (.Call (.Name "range" p) [a] [] pos) (iRng1 ta):=by
 intro pins s σ H R I h;refine Call_ (c4f I hg hm boot_range (A3c (thn (ha pos pins s σ H _ I h) fun us s1 ⟨vs,H1,I1,r1,q1⟩=>?_) hs rfl));obtain⟨j,e,q1,q2,q⟩:=q1;subst e
 cases r1 with
 | cons r rr=>
  cases rr;obtain⟨t,rfl⟩:=r;exact call_range_1 (range_it I1 (by omega) (by omega) q1 q2 (by simpa using q))
theorem pi_range2 {a b:Expr}{ta:TA}(hg:Gl X "range")(hm:X.mg "range" = none)(ha:PA X [a,b] ta)(hs:starEach [a,b] X.env=[(false,eval a X.env),(false,eval b X.env)]:=by rfl)(hs2:starEach [b] X.env=[(false,eval b X.env)]:=by rfl) :
  PI X tg (.Call (.Name "range" p) [a,b] [] pos) (iRng2 ta):=by
 intro pins s σ H R I h;refine Call_ (c4f I hg hm boot_range (A3c (thn (ha pos pins s σ H _ I h) fun us s1 ⟨vs,H1,I1,r1,q1⟩=>?_) (by rw[hs,hs2]) (by rw[hs2];rfl)));obtain⟨i,j,e,⟨q1,q2,q3,q4⟩,q⟩:=q1;subst e
 cases r1 with
 | cons r rr=>
  cases rr with
  | cons r' rr=>
   cases rr;obtain⟨t,rfl⟩:=r;obtain⟨t',rfl⟩:=r';exact call_range_2 (range_it I1 q1 q2 q3 q4 q)
def tFor (wi:TI)(g:TG)(tb:TS):TS:=fun D σ H=>wi σ H fun J H1=>∃W:Nat->Nat->St->Hp->Prop,(∃m,W 0 m σ H1)/\∀i m σ H,W i m σ H->
 (J.stop i H/\D.nx σ H)\/(J.go i H/\∃N:St->Hp->Prop,(∀σ' H',N σ' H'->∃m',m'<m/\W (i+1) m' σ' H')/\∀x H',J.yld i H x H'->g x σ H' fun σ2 H2=>tb { D with nx:=N,ct:=N,bk:=D.nx } σ2 H2)
def d2k (fp:List Addr)(h:Heap):List (Addr×Obj):=fp.filterMap fun b=>(h.get? b).map fun o=>(b,o)
theorem b0e (hb:b∈fp)(e:h.get? b=some o):(b,o)∈d2k fp h:=List.mem_filterMap.mpr ⟨b,hb,by rw[e];rfl⟩
theorem of_pinsAt {p:Addr×Obj}(hp:p∈d2k fp h):p.1∈fp/\h.get? p.1=some p.2:=by
 obtain⟨b,hb,e⟩:=List.mem_filterMap.mp hp
 cases q:h.get? b with
 | none=>rw[q] at e;cases e
 | some o=>
  rw[q] at e;have e':(b,o)=p:=A0s e;subst e';exact⟨hb,q⟩
theorem Inv.pinned {σ:St}{H:Hp}(I:Inv X pins σ H s)(hf:∀b∈fp,FpOk X pins H b)(ho:∀b∈fp,∃o,s.heap.get? b=some o/\∀v,o.data≠.cell v):Inv X (pins++d2k fp s.heap) σ H s:=
 I.pins_of fun p hp=>(List.mem_append.mp hp).elim (fun z=>I.pin p (A0v _ z)) fun z=>by
  obtain⟨hb,e⟩:=of_pinsAt z;obtain⟨f0,f1,f2,_⟩:=hf p.1 hb;obtain⟨o,e',d⟩:=ho p.1 hb;rw[e] at e';cases e';exact⟨e,f0,f1,f2,d⟩
theorem Inv.unpinned {pl:List (Addr×Obj)}{σ:St}{H:Hp}(I:Inv X (pins++pl) σ H s):Inv X pins σ H s:=I.pins_of fun p hp=>I.pin p (A0v _ (A2g _ hp))
theorem a4e {iter:Expr}{wi:TI}{g:TG}{tb:TS}(hp:PassesOwn (model X.prog X.w) X.A X.env X.xe)(hc:X.calm=true)(hi:PI X tg iter wi)(hg:PG X tg g)(hb:PSs X body tb)
  (hs:∀x,foldedSetIterable iter X.env x=pure x:=by intro _;rfl):PS X (.For tg iter body [] pos) (tFor wi g tb):=by
 intro pins s σ H D I h;refine wpAny_For (thn (hi pins s σ H _ I h) fun v s1 h1=>thn h1 fun itv s2 h2=>?_) hs;obtain⟨it,fp,tn,J,H2,e,I2,T,st2,f2,W,⟨m0,w0⟩,turn⟩:=h2;subst e;have stat:∀{H':Hp},(∀b∈fp,H' b=none)->∀b∈fp,FpOk X pins H' b:=fun hn b hb=>⟨hn b hb,(f2 b hb).2⟩;refine codeAny_forLoop_any (fun n s'=>∃i σ' H',Inv X pins σ' H' s'/\tn i s'.heap/\(∀b∈fp,H' b=none)/\W i n σ' H') ?_ m0 ⟨0,σ,H2,I2,st2,fun b hb=>(f2 b hb).1,w0⟩;rintro n s3 ⟨i,σ3,H3,I3,st3,fr3,w3⟩
 rcases turn i n σ3 H3 w3 with ⟨stop,qn⟩|⟨go,N,hN,step⟩
 ·refine A5d hp (thn (T.done X rfl rfl rfl hc i pins s3 σ3 H3 X.xe I3 (stat fr3) st3 stop) fun r s4 hq9=>?_);obtain⟨hr,I4⟩:=hq9;subst hr;exact A5w ⟨σ3,H3,I4,qn⟩
 ·refine A5d hp (thn (T.item X rfl rfl rfl hc i pins s3 σ3 H3 X.xe I3 (stat fr3) st3 go) fun r s4 hq9=>?_);obtain⟨u,hr,h4⟩:=hq9;subst hr;refine A5d hp (thn h4 fun _ s5 hq9=>?_);obtain⟨x,H5,I5,r5,y5,st5,fr5⟩:=hq9;have I5':=I5.pinned (stat fr5) (T.obj _ _ st5);refine A5d hp (thn (hg _ s5 σ3 H5 x u _ I5' r5 (step x H5 y5)) fun _ s6 hq9=>?_);obtain⟨σ6,H6,I6,q6⟩:=hq9;refine A5d hp (thn (hb _ s6 σ6 H6 _ I6 q6) fun f s7 q7=>?_)
  have again:∀{σ7:St} {H7:Hp},Inv X (pins++d2k fp s5.heap) σ7 H7 s7->N σ7 H7->∃m,m<n/\∃i σ' H',Inv X pins σ' H' s7/\tn i s7.heap/\(∀b∈fp,H' b=none)/\W i m σ' H':=fun {σ7 H7} I7 n7=>by
   obtain⟨m',hm,w7⟩:=hN σ7 H7 n7;refine⟨m',hm,i+1,σ7,H7,I7.unpinned,T.keep _ _ _ st5 fun b hb o e=>(I7.pin (b,o) (A0v _ (A0v _ (b0e hb e)))).1,fun b hb=>?_,w7⟩;obtain⟨o,e,d⟩:=T.obj _ _ st5 b hb;exact(I7.pin (b,o) (A0v _ (A0v _ (b0e hb e)))).2.1
  cases f with
  | next=>obtain⟨σ7,H7,I7,n7⟩:=q7;exact again I7 n7
  | cont=>obtain⟨σ7,H7,I7,n7⟩:=q7;exact again I7 n7
  | brk=>obtain⟨σ7,H7,I7,q7⟩:=q7;exact⟨σ7,H7,I7.unpinned,q7⟩
  | ret v=>obtain⟨x7,σ7,H7,I7,r7,q7⟩:=q7;exact⟨x7,σ7,H7,I7.unpinned,r7,q7⟩
end
theorem for_list {xs:List V}{g:TG}{tb:TS}{D:c4x}{σ:St}{H:Hp}(Pv:Nat->St->Hp->Prop)(h0:Pv 0 σ H)(hl:∀i σ H,i<=xs.length->Pv i σ H->SqL K H a xs)
  (hs:∀i x σ H,xs[i]? = some x->Pv i σ H->g x σ H fun σ2 H2=>tb { D with nx:=Pv (i+1),ct:=Pv (i+1),bk:=D.nx } σ2 H2) (hd:∀σ H,Pv xs.length σ H->D.nx σ H) :
  ∃W:Nat->Nat->St->Hp->Prop,(∃m,W 0 m σ H)/\∀i m σ H,W i m σ H->
   ((Itl K a).stop i H/\D.nx σ H)\/((Itl K a).go i H/\∃N:St->Hp->Prop,(∀σ' H',N σ' H'->∃m',m'<m/\W (i+1) m' σ' H')/\∀x H',(Itl K a).yld i H x H'->g x σ H' fun σ2 H2=>tb { D with nx:=N,ct:=N,bk:=D.nx } σ2 H2):=by
 refine⟨fun i m σ H=>m=xs.length-i/\i<=xs.length/\Pv i σ H,⟨xs.length,by simp,A1v _,h0⟩,?_⟩;rintro i m σ H ⟨rfl,hi,p⟩;have q:=hl i σ H hi p
 by_cases hlt:i<xs.length
 ·refine .inr ⟨⟨xs,xs[i],q,by simp[hlt]⟩,Pv (i+1),fun σ' H' p'=>⟨xs.length-(i+1),by omega,rfl,hlt,p'⟩,fun x H' y=>?_⟩;obtain⟨e,y⟩:=y;subst e;exact hs i x σ _ (y xs q) p
 ·have e:i=xs.length:=by omega
  subst e;exact .inl ⟨⟨xs,q,A0k _⟩,hd σ H p⟩
theorem for_range {n:Nat}{g:TG}{tb:TS}{D:c4x}{σ:St}{H:Hp}(Pv:Nat->St->Hp->Prop)(h0:Pv 0 σ H)
  (hs:∀i σ H,i<n->Pv i σ H->g (.int (lo+i)) σ H fun σ2 H2=>tb { D with nx:=Pv (i+1),ct:=Pv (i+1),bk:=D.nx } σ2 H2) (hd:∀σ H,Pv n σ H->D.nx σ H) :
  ∃W:Nat->Nat->St->Hp->Prop,(∃m,W 0 m σ H)/\∀i m σ H,W i m σ H->
   ((Itr lo n).stop i H/\D.nx σ H)\/((Itr lo n).go i H/\∃N:St->Hp->Prop,(∀σ' H',N σ' H'->∃m',m'<m/\W (i+1) m' σ' H')/\∀x H',(Itr lo n).yld i H x H'->g x σ H' fun σ2 H2=>tb { D with nx:=N,ct:=N,bk:=D.nx } σ2 H2):=by
 refine⟨fun i m σ H=>m=n-i/\i<=n/\Pv i σ H,⟨n,by simp,A1v _,h0⟩,?_⟩;rintro i m σ H ⟨rfl,hi,p⟩
 by_cases hlt:i<n
 ·refine .inr ⟨hlt,Pv (i+1),fun σ' H' p'=>⟨n-(i+1),by omega,rfl,hlt,p'⟩,fun x H' y=>?_⟩;obtain⟨e,y⟩:=y;subst e y;exact hs i σ _ hlt p
 ·have e:i=n:=by omega
  subst e;exact .inl ⟨A0k _,hd σ H p⟩
abbrev R2:=V->V->Hp->VK->Prop
def OpR (X:Cx)(f:Value->Value->Sem Value)(r:R2):Prop:=
 ∀(pins:List (Addr×Obj)) (s:Shared) (σ:St) (H:Hp) (x y:V) (v u:Value) (Q:VK),Inv X pins σ H s->a8e x v->a8e y u->r x y H Q->
  wpAny (model X.prog X.w) X.A (f v u) (EP X pins σ Q) X.xe s
def UnR (X:Cx)(f:Value->Sem Value)(r:V->Hp->VK->Prop):Prop:=
 ∀(pins:List (Addr×Obj)) (s:Shared) (σ:St) (H:Hp) (x:V) (v:Value) (Q:VK),Inv X pins σ H s->a8e x v->r x H Q->
  wpAny (model X.prog X.w) X.A (f v) (EP X pins σ Q) X.xe s
def b2z (X:Cx)(f:Value)(r:List V->Hp->VK->Prop):Prop:=
 ∀(pins:List (Addr×Obj)) (s:Shared) (σ:St) (H:Hp) (xs:List V) (us:List Value) (Q:VK),Inv X pins σ H s->a5q xs us->r xs H Q->
  wpAny (model X.prog X.w) X.A (call f us) (EP X pins σ Q) X.xe s
def tOp (r:R2)(ta tb:TE):TE:=fun σ H Q=>ta σ H fun x H1=>tb σ H1 fun y H2=>r x y H2 Q
def tUn (r:V->Hp->VK->Prop)(ta:TE):TE:=fun σ H Q=>ta σ H fun x H1=>r x H1 Q
def rI (C:Int->Int->Prop)(g:Int->Int->V):R2:=fun x y H Q=>∃i j,x=.int i/\y=.int j/\C i j/\Q (g i j) H
def rI0 (g:Int->Int->V):R2:=fun x y H Q=>∃i j,x=.int i/\y=.int j/\Q (g i j) H
def rU (g:Int->V):V->Hp->VK->Prop:=fun x H Q=>∃i,x=.int i/\Q (g i) H
section
variable {X:Cx}{a b c:Expr}{ta tb tc:TE}{pos:Pos}
theorem binT (ha:PE X a ta)(hb:PE X b tb){σ:St}{H:Hp}{R:V->V->Hp->Prop}(I:Inv X pins σ H s)
  (h:ta σ H fun x H1=>tb σ H1 fun y H2=>R x y H2) {Q:Value->Shared->Prop} {f:Value->Value->Sem Value}
  (hf:∀v u s2 x y H2,Inv X pins σ H2 s2->a8e x v->a8e y u->R x y H2->wpAny (model X.prog X.w) X.A (f v u) Q X.xe s2) :
  wpAny (model X.prog X.w) X.A (eval a X.env) (fun v s₁=>wpAny (model X.prog X.w) X.A (eval b X.env) (fun u s₂=>wpAny (model X.prog X.w) X.A (f v u) Q X.xe s₂) X.xe s₁) X.xe s:=by
 refine thn (ha pins s σ H _ I h) fun v s1 hq9=>?_;obtain⟨x,H1,I1,r1,q1⟩:=hq9;refine thn (hb pins s1 σ H1 _ I1 q1) fun u s2 hq9=>?_;obtain⟨y,H2,I2,r2,q2⟩:=hq9;exact hf v u s2 x y H2 I2 r1 r2 q2
theorem a0k {op:Operator}{r:R2}(ho:OpR X (binaryOp op) r)(ha:PE X a ta)(hb:PE X b tb):PE X (.BinOp a op b pos) (tOp r ta tb):=by
 intro pins s σ H Q I h;exact wpAny_BinOp (binT ha hb I h fun v u s2 x y H2 I2 rx ry q=>ho pins s2 σ H2 x y v u Q I2 rx ry q)
theorem pe_un {op:UnaryOp}{r:V->Hp->VK->Prop}(ho:UnR X (unaryOp op) r)(ha:PE X a ta):PE X (.UnaryOp op a pos) (tUn r ta):=by
 intro pins s σ H Q I h;exact UnaryOp_ (thn (ha pins s σ H _ I h) fun v s1 ⟨x,H1,I1,r1,q1⟩=>ho pins s1 σ H1 x v Q I1 r1 q1)
theorem opI {f:Value->Value->Sem Value}{C:Int->Int->Prop}{g:Int->Int->Int}
  (rule:∀(i j:Int) (t u:Tok) (s:Shared) (Q:Value->Shared->Prop) (E:Value->Shared->Prop),C i j->Q (.int (g i j) s.toks) { s with toks:=s.toks+1 }->wpAny (model X.prog X.w) X.A (f (.int i t) (.int j u)) Q E s) :
  OpR X f (rI C fun i j=>.int (g i j)):=by
 intro pins s σ H x y v u Q I rx ry h;obtain⟨i,j,rfl,rfl,hc,q⟩:=h;obtain⟨t,rfl⟩:=rx;obtain⟨t',rfl⟩:=ry;exact rule i j t t' s _ _ hc ⟨.int (g i j),H,I.tok _,⟨_,rfl⟩,q⟩
theorem opI0 {f:Value->Value->Sem Value}{g:Int->Int->Int}
  (rule:∀(i j:Int) (t u:Tok) (s:Shared) (Q:Value->Shared->Prop) (E:Value->Shared->Prop),Q (.int (g i j) s.toks) { s with toks:=s.toks+1 }->wpAny (model X.prog X.w) X.A (f (.int i t) (.int j u)) Q E s) :
  OpR X f (rI0 fun i j=>.int (g i j)):=by
 intro pins s σ H x y v u Q I rx ry h;obtain⟨i,j,rfl,rfl,q⟩:=h;obtain⟨t,rfl⟩:=rx;obtain⟨t',rfl⟩:=ry;exact rule i j t t' s _ _ ⟨.int (g i j),H,I.tok _,⟨_,rfl⟩,q⟩
theorem opB0 {f:Value->Value->Sem Value}{g:Int->Int->Bool}
  (rule:∀(i j:Int) (t u:Tok) (s:Shared) (Q:Value->Shared->Prop) (E:Value->Shared->Prop),Q (.bool (g i j)) s->wpAny (model X.prog X.w) X.A (f (.int i t) (.int j u)) Q E s) :
  OpR X f (rI0 fun i j=>.bl (g i j)):=by
 intro pins s σ H x y v u Q I rx ry h;obtain⟨i,j,rfl,rfl,q⟩:=h;obtain⟨t,rfl⟩:=rx;obtain⟨t',rfl⟩:=ry;exact rule i j t t' s _ _ ⟨.bl (g i j),H,I,rfl,q⟩
def CPow (i j:Int):Prop:=0<=j/\j<=1000000/\i.natAbs<2^64
def CMul (i j:Int):Prop:=(-(2^64)<i/\i<2^64)\/(-(2^64)<j/\j<2^64)
theorem CMul.ok {i j:Int}(h:CMul i j):IntMulOk i j:=by
 rcases h with ⟨h1,h2⟩|⟨h1,h2⟩
 ·exact .of_left (intBits_le_64 h1 h2)
 ·exact .of_right (intBits_le_64 h1 h2)
theorem two_pow_nn (k:Nat):(0:Int)<=2^k:=by
 rw[two_pow_cast];exact Int.natCast_nonneg _
theorem a6x:OpR X (binaryOp .Add) (rI0 fun i j=>.int (i+j)):=opI0 fun _ _ _ _ _ _ _ q=>add_int q
theorem b3n:OpR X (binaryOp .Sub) (rI0 fun i j=>.int (i-j)):=opI0 fun _ _ _ _ _ _ _ q=>sub_int q
theorem op_mul:OpR X (binaryOp .Mult) (rI CMul fun i j=>.int (i*j)):=opI fun _ _ _ _ _ _ _ hc q=>mul_int q hc.ok
theorem a6d:OpR X (binaryOp .Mod) (rI (fun _ j=>0<j) fun i j=>.int (i%j)):=opI fun i j _ _ _ _ _ hc q=>by
 have h1:(0:Int)<j:=hc;exact mod_int' (by omega) (by rw[Int.fmod_eq_emod_of_nonneg i (by omega)];exact q)
theorem op_pow:OpR X (binaryOp .Pow) (rI CPow fun i j=>.int (i^j.toNat)):=opI fun _ _ _ _ _ _ _ hc q=>pow_int_small hc.1 hc.2.1 hc.2.2 q
theorem a3e:OpR X (binaryOp .LShift) (rI CPow fun i j=>.int (i*2^j.toNat)):=opI fun _ _ _ _ _ _ _ hc q=>lshift_int_small hc.1 hc.2.1 hc.2.2 q
theorem d2r:OpR X (binaryOp .RShift) (rI (fun _ j=>0<=j) fun i j=>.int (i/2^j.toNat)):=opI fun i j _ _ _ _ _ hc q=>
 rshift_int hc (by rw[A8u i (two_pow_nn _)];exact q)
theorem a3f:OpR X (binaryOp .BitAnd) (rI0 fun i j=>.int (A2e i j)):=opI0 fun _ _ _ _ _ _ _ q=>and_int q
theorem c3e:OpR X (binaryOp .BitOr) (rI0 fun i j=>.int (A8g i j)):=opI0 fun _ _ _ _ _ _ _ q=>or_int q
theorem a1t:OpR X (binaryOp .BitXor) (rI0 fun i j=>.int (A3x i j)):=opI0 fun _ _ _ _ _ _ _ q=>xor_int q
theorem unI {f:Value->Sem Value}{g:Int->Int}
  (rule:∀(i:Int) (t:Tok) (s:Shared) (Q:Value->Shared->Prop) (E:Value->Shared->Prop),Q (.int (g i) s.toks) { s with toks:=s.toks+1 }->wpAny (model X.prog X.w) X.A (f (.int i t)) Q E s) :
  UnR X f (rU fun i=>.int (g i)):=by
 intro pins s σ H x v Q I rx h;obtain⟨i,rfl,q⟩:=h;obtain⟨t,rfl⟩:=rx;exact rule i t s _ _ ⟨.int (g i),H,I.tok _,⟨_,rfl⟩,q⟩
theorem un_neg:UnR X (unaryOp .USub) (rU fun i=>.int (-i)):=unI fun _ _ _ _ _ q=>neg_int q
end
def scal:V->V->Bool
 | .non,.non=>true|.non,.int _=>true|.int _,.non=>true|.non,.bl _=>true|.bl _,.non=>true|.non,.str _=>true|.str _,.non=>true
 | .int _,.int _=>true|.bl _,.bl _=>true|.str _,.str _=>true|.byt _,.byt _=>true
 | .int _,.str _=>true|.str _,.int _=>true|.bl _,.str _=>true|.str _,.bl _=>true
 | _,_=>false
def rEq:R2:=fun x y H Q=>scal x y=true/\Q (.bl (decide (x=y))) H
def rNe:R2:=fun x y H Q=>scal x y=true/\Q (.bl (!decide (x=y))) H
theorem dec_int {i j:Int}:decide (V.int i=V.int j)=(i==j):=by
 rw[A7c];simp
theorem dec_bl {i j:Bool}:decide (V.bl i=V.bl j)=(i==j):=by
 rw[A7c];simp
theorem dec_str {i j:Str}:decide (V.str i=V.str j)=(i==j):=by
 rw[A7c];simp
theorem dec_byt {i j:Array UInt8}:decide (V.byt i=V.byt j)=(i.toList==j.toList):=by
 rw[A7c];cases i;cases j;simp
section
variable {X:Cx}{a b c:Expr}{ta tb tc:TE}{pos:Pos}
theorem a3a {σ:St}{H:Hp}{Q:VK}{k k':Bool}(I:Inv X pins σ H s)(q:Q (.bl k) H)(e:k=k'):EP X pins σ Q (.bool k') s:=by
 subst e;exact⟨.bl k,H,I,rfl,q⟩
theorem a5t:OpR X (compareOp .Eq) rEq:=by
 intro pins s σ H x y v u Q I rx ry h;obtain⟨hs,q⟩:=h
 cases x with
 | non=>
  cases rx
  cases y with
  | non=>cases ry;exact PySem.EqNone.eq_none_none (a3a I q (by simp))
  | bl j=>cases ry;exact PySem.EqNone.eq_none_bool (a3a I q (by simp))
  | int j=>obtain⟨t',rfl⟩:=ry;exact PySem.EqNone.eq_none_int (a3a I q (by simp))
  | str j=>obtain⟨t',rfl⟩:=ry;exact PySem.EqNone.eq_none_str (a3a I q (by simp))
  | _=>exact absurd (show false=true from hs) A1a
 | bl i=>
  cases rx
  cases y with
  | non=>cases ry;exact PySem.EqNone.eq_bool_none (a3a I q (by simp))
  | bl j=>cases ry;exact eq_bool (a3a I q dec_bl)
  | str j=>obtain⟨t',rfl⟩:=ry;exact PySem.EqMixed.eq_bool_str (a3a I q (by simp))
  | _=>exact absurd (show false=true from hs) A1a
 | int i=>
  obtain⟨t,rfl⟩:=rx
  cases y with
  | non=>cases ry;exact PySem.EqNone.eq_int_none (a3a I q (by simp))
  | int j=>obtain⟨t',rfl⟩:=ry;exact eq_int (a3a I q dec_int)
  | str j=>obtain⟨t',rfl⟩:=ry;exact PySem.EqMixed.eq_int_str (a3a I q (by simp))
  | _=>exact absurd (show false=true from hs) A1a
 | str i=>
  obtain⟨t,rfl⟩:=rx
  cases y with
  | non=>cases ry;exact PySem.EqNone.eq_str_none (a3a I q (by simp))
  | bl j=>cases ry;exact PySem.EqMixed.eq_str_bool (a3a I q (by simp))
  | int j=>obtain⟨t',rfl⟩:=ry;exact PySem.EqMixed.eq_str_int (a3a I q (by simp))
  | str j=>obtain⟨t',rfl⟩:=ry;exact eq_str (a3a I q dec_str)
  | _=>exact absurd (show false=true from hs) A1a
 | byt i=>
  obtain⟨t,rfl⟩:=rx
  cases y with
  | byt j=>obtain⟨t',rfl⟩:=ry;exact PySem.W.eq_bytes (a3a I q dec_byt)
  | _=>exact absurd (show false=true from hs) A1a
 | _=>cases y<;>exact absurd (show false=true from hs) A1a
theorem c5k:OpR X (compareOp .NotEq) rNe:=by
 intro pins s σ H x y v u Q I rx ry h;obtain⟨hs,q⟩:=h
 cases x with
 | non=>
  cases rx
  cases y with
  | non=>cases ry;exact PySem.EqNone.ne_none_none (a3a I q (by simp))
  | bl j=>cases ry;exact PySem.EqNone.ne_none_bool (a3a I q (by simp))
  | int j=>obtain⟨t',rfl⟩:=ry;exact PySem.EqNone.ne_none_int (a3a I q (by simp))
  | str j=>obtain⟨t',rfl⟩:=ry;exact PySem.EqNone.ne_none_str (a3a I q (by simp))
  | _=>exact absurd (show false=true from hs) A1a
 | bl i=>
  cases rx
  cases y with
  | non=>cases ry;exact PySem.EqNone.ne_bool_none (a3a I q (by simp))
  | bl j=>cases ry;exact ne_bool (a3a I q (congrArg not dec_bl))
  | str j=>obtain⟨t',rfl⟩:=ry;exact PySem.EqMixed.ne_bool_str (a3a I q (by simp))
  | _=>exact absurd (show false=true from hs) A1a
 | int i=>
  obtain⟨t,rfl⟩:=rx
  cases y with
  | non=>cases ry;exact PySem.EqNone.ne_int_none (a3a I q (by simp))
  | int j=>obtain⟨t',rfl⟩:=ry;exact ne_int (a3a I q (congrArg not dec_int))
  | str j=>obtain⟨t',rfl⟩:=ry;exact PySem.EqMixed.ne_int_str (a3a I q (by simp))
  | _=>exact absurd (show false=true from hs) A1a
 | str i=>
  obtain⟨t,rfl⟩:=rx
  cases y with
  | non=>cases ry;exact PySem.EqNone.ne_str_none (a3a I q (by simp))
  | bl j=>cases ry;exact PySem.EqMixed.ne_str_bool (a3a I q (by simp))
  | int j=>obtain⟨t',rfl⟩:=ry;exact PySem.EqMixed.ne_str_int (a3a I q (by simp))
  | str j=>obtain⟨t',rfl⟩:=ry;exact ne_str (a3a I q (congrArg not dec_str))
  | _=>exact absurd (show false=true from hs) A1a
 | byt i=>
  obtain⟨t,rfl⟩:=rx
  cases y with
  | byt j=>obtain⟨t',rfl⟩:=ry;exact PySem.W.ne_bytes (a3a I q (congrArg not dec_byt))
  | _=>exact absurd (show false=true from hs) A1a
 | _=>cases y<;>exact absurd (show false=true from hs) A1a
theorem op_lt:OpR X (compareOp .Lt) (rI0 fun i j=>.bl (decide (i<j))):=opB0 fun _ _ _ _ _ _ _ q=>lt_int q
theorem op_le:OpR X (compareOp .LtE) (rI0 fun i j=>.bl (decide (i<=j))):=opB0 fun _ _ _ _ _ _ _ q=>le_int q
theorem op_gt:OpR X (compareOp .Gt) (rI0 fun i j=>.bl (decide (j<i))):=opB0 fun _ _ _ _ _ _ _ q=>gt_int q
theorem op_ge:OpR X (compareOp .GtE) (rI0 fun i j=>.bl (decide (j<=i))):=opB0 fun _ _ _ _ _ _ _ q=>ge_int q
theorem op_in_str:OpR X (compareOp .In) (fun x y H Q=>∃i j,x=.str i/\y=.str j/\Q (.bl (!(A5j j i 0 j.length 1).isEmpty)) H):=by
 intro pins s σ H x y v u Q I rx ry h;obtain⟨i,j,rfl,rfl,q⟩:=h;obtain⟨t,rfl⟩:=rx;obtain⟨t',rfl⟩:=ry;exact in_str (a3a I q rfl)
theorem op_isN:OpR X (compareOp .Is) (fun x y H Q=>y=.non/\Q (.bl (decide (x=.non))) H):=by
 intro pins s σ H x y v u Q I rx ry h;obtain⟨rfl,q⟩:=h;cases ry;refine is_none_gen (a3a I q ?_)
 cases x<;>first
  | (cases rx;rfl)
  | (obtain⟨t,rfl⟩:=rx;rfl)
theorem op_notN:OpR X (compareOp .IsNot) (fun x y H Q=>y=.non/\Q (.bl (!decide (x=.non))) H):=by
 intro pins s σ H x y v u Q I rx ry h;obtain⟨rfl,q⟩:=h;cases ry;refine isnot_none_gen (a3a I q ?_)
 cases x<;>first
  | (cases rx;rfl)
  | (obtain⟨t,rfl⟩:=rx;rfl)
theorem a1d (b:Expr)(h:op≠.In:=by decide)(h2:op≠.NotIn:=by decide):behindInMarks op b=false:=by
 have e1:(op==CmpOp.In)=false:=by cases op<;>first|rfl|exact absurd rfl h
 have e2:(op==CmpOp.NotIn)=false:=by cases op<;>first|rfl|exact absurd rfl h2
 cases b<;>simp[behindInMarks,e1,e2]
theorem b2j {r:R2}(ho:OpR X (compareOp op) r)(ha:PE X a ta)(hb:PE X b tb)(hm:behindInMarks op b=false):PE X (.Compare a [op] [b] pos) (tOp r ta tb):=by
 intro pins s σ H Q I h;exact wpAny_Compare1 (binT ha hb I h fun v u s2 x y H2 I2 rx ry q=>ho pins s2 σ H2 x y v u Q I2 rx ry q) hm
def tTest (t:TE):TT:=fun σ H Q=>t σ H fun x H'=>∃k,x=.bl k/\Q k H'
theorem a0v {op:CmpOp}{r:R2}(ho:OpR X (compareOp op) r)(ha:PE X a ta)(hb:PE X b tb)(hm:behindInMarks op b=false):PT X (.Compare a [op] [b] pos) (tTest (tOp r ta tb)):=by
 intro pins s σ H Q I h
 refine wpAny_isTrue_Compare1 (thn (ha pins s σ H _ I h) fun v s1 ⟨x,H1,I1,r1,q1⟩=>thn (hb pins s1 σ H1 _ I1 q1) fun u s2 ⟨y,H2,I2,r2,q2⟩=>
  thn (ho pins s2 σ H2 x y v u _ I2 r1 r2 q2) fun c s3 ⟨z,H3,I3,r3,k,e,q3⟩=>?_) hm
 subst e;cases r3;exact A5c ⟨H3,I3,q3⟩
def tChain (r r':R2)(ta tb tc:TE):TE:=fun σ H Q=>ta σ H fun x H1=>tb σ H1 fun y H2=>r x y H2 fun z H3=>∃k,z=.bl k/\
 (if k=true then tc σ H3 fun w' H4=>r' y w' H4 Q else Q (.bl false) H3)
theorem pe_chain {op':CmpOp}{r r':R2}(ho:OpR X (compareOp op) r)(ho':OpR X (compareOp op') r')(ha:PE X a ta)(hb:PE X b tb)(hc:PE X c tc)
  (hm:lastMarks [op,op'] [b,c]=false:=by with_unfolding_all rfl):PE X (.Compare a [op,op'] [b,c] pos) (tChain r r' ta tb tc):=by
 intro pins s σ H Q I h
 refine Compare_chain (thn (ha pins s σ H _ I h) fun v s1 ⟨x,H1,I1,r1,q1⟩=>chain_link (thn (hb pins s1 σ H1 _ I1 q1) fun u s2 ⟨y,H2,I2,r2,q2⟩=>
  thn (ho pins s2 σ H2 x y v u _ I2 r1 r2 q2) fun d s3 ⟨z,H3,I3,r3,k,e,q3⟩=>?_)) hm
 subst e;cases r3;refine A5c ?_
 cases k with
 | false=>exact ite_ff ⟨.bl false,H3,I3,rfl,q3⟩
 | true=>exact ite_tt (chain_last (thn (hc pins s3 σ H3 _ I3 q3) fun w' s4 ⟨z',H4,I4,r4,q4⟩=>ho' pins s4 σ H4 y z' u w' Q I4 r2 r4 q4))
theorem line63:(sizeLine:Nat)<2^63:=by rw[sizeLine_eq];decide
theorem vals1 {x:V}(r:a5q [x] us):∃u,us=[u]/\a8e x u:=by
 cases r with
 | cons r1 r2=>cases r2;exact⟨_,rfl,r1⟩
theorem vals2 {x y:V}(r:a5q [x,y] us):∃u w',us=[u,w']/\a8e x u/\a8e y w':=by
 cases r with
 | cons r1 r2=>
  cases r2 with
  | cons r3 r4=>cases r4;exact⟨_,_,rfl,r1,r3⟩
theorem call_max2 (hc:X.calm=true):b2z X (.builtin "max") (fun xs H Q=>∃i j,xs=[.int i,.int j]/\Q (.int (if j>i then j else i)) H):=by
 intro pins s σ H xs us Q I r h;obtain⟨i,j,rfl,q⟩:=h;obtain⟨u,w',rfl,⟨t,rfl⟩,⟨t',rfl⟩⟩:=vals2 r;refine max_two_ints (I.ok.hd hc) fun h' tk k=>⟨_,H,I.kept k,?_,q⟩
 by_cases hj:j>i
 ·rw[if_pos hj,if_pos hj];exact⟨_,rfl⟩
 ·rw[if_neg hj,if_neg hj];exact⟨_,rfl⟩
theorem call_int1:b2z X (.type "int") (fun xs H Q=>(∃i,xs=[.int i]/\Q (.int i) H)\/∃k,xs=[.bl k]/\Q (.int (if k then 1 else 0)) H):=by
 intro pins s σ H xs us Q I r h
 rcases h with ⟨i,rfl,q⟩|⟨k,rfl,q⟩
 ·obtain⟨u,rfl,t,rfl⟩:=vals1 r;exact call_int_int ⟨.int i,H,I,⟨_,rfl⟩,q⟩
 ·obtain⟨u,rfl,r1⟩:=vals1 r;cases r1;exact call_int_bool ⟨.int (if k then 1 else 0),H,I.tok _,⟨_,rfl⟩,q⟩
end
structure ObjM (h:Heap)(x dx C:Addr)(mA:Str->Option Value):Prop where
 obj:h.get? x=some (A4s C dx)
 ns:h.Ns1 dx mA
 ne:dx≠x
theorem lookIn_ns {mA:Str->Option Value}(n:h.Ns1 dx mA):∃od,h.get? dx=some od/\∀name,A9h name od=some (mA name):=by
 obtain⟨o,es,ep,ho,hd,hk,_,hm⟩:=n;refine⟨o,ho,fun name=>?_⟩;have e:=hm name;unfold nsFind findBy at e;rw[<- Array.find?_toList] at e;unfold A9h;rw[hd];dsimp only
 split
 ·rename_i y q;rw[q] at e;exact congrArg some e
 ·rename_i q;rw[q] at e
  have a:es.toList.any (·.refKey)=false:=by
   rw[List.any_eq_false];intro y hy;obtain⟨z,t,hkey⟩:=hk y (Array.mem_toList_iff.mp hy);simp[DictEntry.refKey,hkey]
  have a':¬es.toList.any (·.refKey)=true:=by rw[a];exact A1a
  rw[if_neg a'];exact congrArg some e
theorem ObjM.look {x:Addr}{mA:Str->Option Value}(I:ObjM h x dx C mA):∃od,PySem.W.InstAt h x (A4s C dx) C (some od)/\∀name,A9h name od=some (mA name):=
 let ⟨od,ho,hl⟩:=lookIn_ns I.ns
 ⟨od,⟨I.obj,rfl,rfl,ho⟩,hl⟩
section
variable {prog:Program}{w:World}{A:Around}{E:Value->Shared->Prop}{s:Shared}{K:A0a}{x dx C f:Addr}{mA:Str->Option Value}{name:Str}{v:Value}
theorem get_map {expr:Bool}{Q:Value->Shared->Prop}(X:K.In s.heap)(I:ObjM s.heap x dx C mA)(hg:A6t K C name=true)(hh:A7m K C=true)
  (ha:A2n K (.ref C) name=some none) (hv:mA name=some v) (hv':PySem.W.handedIn v=true) (h:Q v { s with toks:=s.toks+1 }) :
  wpAny (model prog w) A (getAttr (.ref x) name expr) Q E s:=by
 obtain⟨od,J,hl⟩:=I.look;exact PySem.W.get_value X J (A8n hg).1 (PySem.W.findObj_own hh ha rfl (by rw[hl,hv])) hv' h
theorem get_meth {Q:Value×List Value->Shared->Prop}(X:K.In s.heap)(I:ObjM s.heap x dx C mA)(hg:A6t K C name=true)
  (hf:A2n K (.ref C) name=some (some (.ref f))) (ht:A1b K (.ref f)=true) (hv:mA name=none) (h:Q (.ref f,[.ref x]) s) :
  wpAny (model prog w) A (getMethod (.ref x) name pl) Q E s:=by
 obtain⟨od,J,hl⟩:=I.look;exact PySem.W.method_fn X J (A8n hg).1 (A8n hg).2 hf (beq_iff_eq.mp ht) (by show (A9h name od).map (·.isSome)=some false;rw[hl,hv];rfl) h
theorem set_map {ns:List Str}{Q:Unit->Shared->Prop}(X:K.In s.heap)(I:ObjM s.heap x dx C mA)
  (hs:A2n K (.ref C) "__setattr__" = some (some (.builtin "object.__setattr__"))) (hp:A9q K C=true) (ht:B0p K C name=some none) (hh:A7m K C=true)
  (hw:B2a mA ns) (hsz:ns.length<=sizeLine)
  (h:∀h',ObjM h' x dx C (fun y=>if y=name then some v else mA y)->A5h dx s.heap h'->Q () { s with heap:=h',toks:=s.toks+2 }) :
  wpAny (model prog w) A (setAttr (.ref x) name v) Q E s:=by
 obtain⟨od,J,hl⟩:=I.look;refine PySem.W.set_plain X J hs (PySem.W.osa_open (s:={ s with toks:=s.toks+1 }) (r:=none) X J hp ht fun b=>?_);obtain⟨cd,hc,hd'⟩:=PySem.W.any_some hh;have hx:s.heap.get? x=some ⟨.ref C,some dx,.plain,#[]⟩:=I.obj;refine A0n (A1e (A0n (A0n (wpAny_loadPart hx (A0n (PySem.W.Looks.here (s:={ s with toks:=s.toks+1 }) (PySem.W.looks_clsIn X hc) ?_))))));rw[hd'];refine A1e (a:=some dx) (A0n (A1e (A0n ?_)));refine wpAny_nsSet1 (s:={ s with toks:=s.toks+1 }) I.ns fun h' hn2 hs2=>?_;obtain⟨oD,esD,epD,hoD,hdD,hcD⟩:=hn2.count (PySem.Within.cons name v hw);refine A0n (wpAny_lookBehind hoD (by rw[hdD];exact pastItsLine_dict (A1z hcD (by rw[A1c];omega))) ?_);exact A1e (h _ ⟨(hs2.2 _ (A4m I.ne)).trans I.obj,hn2,I.ne⟩ hs2)
theorem make_map {R:Result->Shared->Prop}{vs:List Value}(X:K.In s.heap)(hm:B0q K C=true)
  (hi:A2n K (.ref C) "__init__" = some (some (.ref f))) (hf:PySem.W.typeIn K (.ref f)=some (.type "function"))
  (h:codeAny (model prog w) (A.under (.builtin "type.__call__" ⟨.ref C::vs,kw⟩)) (.call (.ref f) ⟨.ref (s.heap.objs.size+1)::vs,kw⟩) (PySem.W.InitBack (s.heap.objs.size+1) R)
   { s with heap:=(s.heap.push A3r).push (A4s C s.heap.objs.size) }) :
  codeAny (model prog w) A (.call (.ref C) ⟨vs,kw⟩) R s:=by
 obtain⟨hh,g,d,t,os⟩:=s;exact PySem.W.make_core (PySem.W.makes_of X hm) (PySem.W.looks_findIn X hi) (fun self=>PySem.W.bind_fn X self hf) (.inl rfl) h
end
def b2t (f:Str)(v:V):List (Str×V)->List (Str×V)
 | []=>[(f,v)]
 | (g,x)::r=>if g=f then (g,v)::r else (g,x)::b2t f v r
theorem c6x (f g:Str)(v:V):∀fs:List (Str×V),(b2t f v fs).lookup g=if g=f then some v else fs.lookup g
 | []=>by
  show A4d g [(f,v)]=_
  by_cases h:g=f
  ·have hb:(g==f)=true:=beq_iff_eq.mpr h;simp only[A4d,hb,if_pos h]
  ·have hb:(g==f)=false:=beq_eq_false_iff_ne.mpr h;simp only[A4d,hb,if_neg h]
 | (k,x)::r=>by
  have ih:=c6x f g v r;rw[show b2t f v ((k,x)::r)=(if k=f then (k,v)::r else (k,x)::b2t f v r) from rfl]
  by_cases hk:k=f
  ·rw[if_pos hk]
   by_cases h:g=k
   ·have hb:(g==k)=true:=beq_iff_eq.mpr h;simp only[A4d,hb,if_pos (h.trans hk)]
   ·have hb:(g==k)=false:=beq_eq_false_iff_ne.mpr h;simp only[A4d,hb,if_neg (fun e:g=f=>h (e.trans hk.symm))]
  ·rw[if_neg hk]
   by_cases h:g=k
   ·have hb:(g==k)=true:=beq_iff_eq.mpr h;simp only[A4d,hb,if_neg (fun e:g=f=>hk (h.symm.trans e))]
   ·have hb:(g==k)=false:=beq_eq_false_iff_ne.mpr h;simp only[A4d,hb];exact ih
theorem c7v (f:Str)(v:V):∀fs:List (Str×V),f∈(b2t f v fs).map (·.1)/\∀g,g∈fs.map (·.1)->g∈(b2t f v fs).map (·.1)
 | []=>⟨by simp[b2t],fun g h=>by simp at h⟩
 | (k,x)::r=>by
  obtain⟨i1,i2⟩:=c7v f v r;rw[show b2t f v ((k,x)::r)=(if k=f then (k,v)::r else (k,x)::b2t f v r) from rfl]
  by_cases hk:k=f
  ·rw[if_pos hk];subst hk;exact⟨by simp,fun g h=>by simpa using h⟩
  ·rw[if_neg hk];refine⟨?_,fun g h=>?_⟩
   ·rw[A2a];exact A0e _ i1
   ·rw[A2a] at h ⊢
    rcases List.mem_cons.mp h with e|e
    ·exact List.mem_cons.mpr (.inl e)
    ·exact A0e _ (i2 g e)
theorem b1f (f:Str)(v:V):∀fs:List (Str×V),(b2t f v fs).length<=fs.length+1
 | []=>by simp[b2t]
 | (k,x)::r=>by
  have ih:=b1f f v r;rw[show b2t f v ((k,x)::r)=(if k=f then (k,v)::r else (k,x)::b2t f v r) from rfl]
  by_cases hk:k=f
  ·rw[if_pos hk,A1c,A1c];omega
  ·rw[if_neg hk,A1c,A1c];omega
theorem RelO.some_of {v:V}{o:Option Value}(r:RelO (some v) o):∃u,o=some u/\a8e v u:=by
 cases o with
 | none=>exact(show False from r).elim
 | some u=>exact⟨u,rfl,r⟩
theorem RelO.none_of {o:Option Value}(r:RelO none o):o=none:=by
 cases o with
 | none=>rfl
 | some u=>exact(show False from r).elim
theorem handed_of {v:V}(r:a8e v u):PySem.W.handedIn u=true:=by
 cases v with
 | non=>cases (show u=B1w from r);rfl
 | bl b=>cases (show u=B1a b from r);rfl
 | int i=>obtain⟨t,e⟩:=(show ∃t,u=A7b i t from r);cases e;rfl
 | str x=>obtain⟨t,e⟩:=(show ∃t,u=B1h x t from r);cases e;rfl
 | byt b=>obtain⟨t,e⟩:=(show ∃t,u=Value.bytes b t from r);cases e;rfl
 | flt b=>obtain⟨t,e⟩:=(show ∃t,u=B2h b t from r);cases e;rfl
 | ref a=>cases (show u=A3b a from r);rfl
 | ty n=>cases (show u=Value.type n from r);rfl
section
variable {P:Program}{w:World}{H H':Hp}{h h':Heap}{a C dx:Addr}{fs fs':List (Str×V)}
theorem d5d (hok:HOk P w H h)(e:H a=some (.ins C dx fs)):∃mA,ObjM h a dx C mA/\(∀f,RelO (fs.lookup f) (mA f))/\B2a mA (fs.map (·.1))/\fs.length<=1000/\H dx=some (.own a):=by
 obtain⟨d,z,ne,ob,mA,n,r,q⟩:=(show a8s P w H h a (.ins C dx fs) from hok a _ e);exact⟨mA,⟨ob,n,ne⟩,r,q,z,d⟩
end
structure Cls (K:A0a)(C:Addr):Prop where
 pg:A6t K C Str.empty=true
 hd:A7m K C=true
 po:A9q K C=true
 sa:A2n K (.ref C) "__setattr__" = some (some (.builtin "object.__setattr__"))
theorem Cls.get (c:Cls K C)(f:Str):A6t K C f=true:=c.pg
def a6t (K:A0a)(C:Addr)(f:Str):Prop:=A2n K (.ref C) f=some none
theorem a6t.taker {f:Str}(n:a6t K C f):B0p K C f=some none:=by
 unfold B0p;rw[show A2n K (.ref C) f=some none from n];rfl
structure Meth (K:A0a)(C:Addr)(m:Str)(f:Addr):Prop where
 at_:A2n K (.ref C) m=some (some (.ref f))
 fn:A1b K (.ref f)=true
 kp:A3f K (.ref f)=true
section
variable {X:Cx}{pins:List (Addr×Obj)}{σ:St}{H:Hp}{s:Shared}{a C dx:Addr}{fs:List (Str×V)}{f:Str}{v:V}{A:Around}{E:Value->Shared->Prop}
theorem getattr_ok {b:Bool}{Q:Value->Shared->Prop}(I:Inv X pins σ H s)(e:H a=some (.ins C dx fs))(c:Cls X.K C)(n:a6t X.K C f)(l:fs.lookup f=some v)
  (h:∀u s',Inv X pins σ H s'->a8e v u->Q u s'):wpAny (model X.prog X.w) A (getAttr (.ref a) f b) Q E s:=by
 obtain⟨mA,O,r,_,_,_⟩:=d5d I.hok e;obtain⟨u,hu,ru⟩:=RelO.some_of (v:=v) (o:=mA f) (by rw[<- l];exact r f);exact get_map I.kIn O (c.get f) c.hd n hu (handed_of ru) (h u _ (I.tok _) ru)
theorem c2w {m:Str}{g:Addr}{Q:Value×List Value->Shared->Prop}(I:Inv X pins σ H s)(e:H a=some (.ins C dx fs))(c:Cls X.K C)(k:Meth X.K C m g)(l:fs.lookup m=none)
  (h:Q (.ref g,[.ref a]) s):wpAny (model X.prog X.w) A (getMethod (.ref a) m pl) Q E s:=by
 obtain⟨mA,O,r,_,_,_⟩:=d5d I.hok e;have hn:mA m=none:=RelO.none_of (by rw[<- l];exact r m);exact get_meth I.kIn O (c.get m) k.at_ k.fn hn h
theorem setattr_ok {y:V}{Q:Unit->Shared->Prop}(I:Inv X pins σ H s)(e:H a=some (.ins C dx fs))(c:Cls X.K C)(n:a6t X.K C f)(hl:fs.length<1000)(ry:a8e y u)
  (h:∀s',Inv X pins σ (upd H a (.ins C dx (b2t f y fs))) s'->Q () s'):wpAny (model X.prog X.w) A (setAttr (.ref a) f u) Q E s:=by
 obtain⟨mA,O,r,wi,_,ho⟩:=d5d I.hok e;have hz:(fs.map (·.1)).length<=sizeLine:=by rw[A0b,sizeLine_eq];omega
 refine set_map I.kIn O c.sa c.po n.taker c.hd wi hz fun h' O' sb=>h _ ?_;have hd:∃o,h'.get? dx=some o:=let ⟨o,_,_,e',_⟩:=O'.ns;⟨o,e'⟩;refine I.write (x:=a) (e:=dx) (by rw[e];exact A6w) (.inr ho) (fun b q hb z=>(sb.2 b hb).trans z) hd ?_;refine⟨by rw[a0w O.ne];exact ho,?_,O.ne,O'.obj,_,O'.ns,fun g=>?_,fun g hg=>?_⟩
 ·have:=b1f f y fs;omega
 ·show RelO ((b2t f y fs).lookup g) (if g=f then some u else mA g);rw[c6x]
  by_cases q:g=f
  ·rw[if_pos q,if_pos q];exact ry
  ·rw[if_neg q,if_neg q];exact r g
 ·by_cases q:g=f
  ·rw[q];exact(c7v f y fs).1
  ·refine(c7v f y fs).2 g (wi g fun z=>hg ?_);show (if g=f then some u else mA g)=none;rw[if_neg q];exact z
theorem Inv.made (I:Inv X pins σ H s):Inv X pins σ (upd (upd H s.heap.objs.size (.own (s.heap.objs.size+1))) (s.heap.objs.size+1) (.ins C s.heap.objs.size []))
  { s with heap:=(s.heap.push A3r).push (A4s C s.heap.objs.size) }:=by
 have e1:(s.heap.push A3r).get? s.heap.objs.size=some A3r:=Heap.get?_push_size s.heap rfl
 have e2:((s.heap.push A3r).push (A4s C s.heap.objs.size)).get? (s.heap.objs.size+1)=some (A4s C s.heap.objs.size):=by
  have:=Heap.get?_push_size (s.heap.push A3r) (o:=A4s C s.heap.objs.size) rfl
  rwa [A4p] at this
 have e3:(s.heap.push A3r).Ns s.heap.objs.size (fun _=>none):=⟨A3r,#[],_,e1,rfl,(fun e he=>absurd he (by simp)),fun _=>rfl⟩;have I1:=I.laid (a:=s.heap.objs.size) (o:=.own (s.heap.objs.size+1)) (h':=s.heap.push A3r) (t':=s.toks) (fun b u q=>Heap.get?_push_of_some _ q) (A0k _) ⟨_,e1⟩;refine I1.laid (a:=s.heap.objs.size+1) (o:=.ins C s.heap.objs.size []) (t':=s.toks) (fun b u q=>Heap.get?_push_of_some _ q) (B2b (A4p _ _)) ?_;have ne:s.heap.objs.size≠s.heap.objs.size+1:=A2r (A4a _);refine⟨by rw[a0w ne,a0d],A1v _,ne,e2,fun _=>none,(Heap.Ns1.of_empty e3).at fun o q=>Heap.get?_push_of_some _ q,fun _=>A6w,fun y hy=>absurd rfl hy⟩
theorem attr_of {prog:Program}{w:World}{env:Env}{f:Str}{s:Shared}{Q:Value->Shared->Prop}(hb:attributeBase e f env (eval e env)=eval e env)
  (h:wpAny (model prog w) A (eval e env) (fun o s₁=>wpAny (model prog w) A (getAttr o f true) Q E s₁) E s):wpAny (model prog w) A (eval (.Attribute e f pos) env) Q E s:=
 Attribute_any_ h (by rw[arm_eval_Attribute,hb])
end
def tFld (K:A0a)(ta:TE)(f:Str):TE:=fun σ H Q=>ta σ H fun x H1=>∃a C dx fs v,x=.ref a/\H1 a=some (.ins C dx fs)/\Cls K C/\a6t K C f/\fs.lookup f=some v/\Q v H1
def sFld (K:A0a)(ta tv:TE)(f:Str):TS:=fun D σ H=>tv σ H fun y H1=>ta σ H1 fun x H2=>∃a C dx fs,x=.ref a/\H2 a=some (.ins C dx fs)/\Cls K C/\a6t K C f/\fs.length<1000/\
 D.nx σ (upd H2 a (.ins C dx (b2t f y fs)))
section
variable {X:Cx}{o e value:Expr}{f:Str}{pos pos' tpos:Pos}{ta tv:TE}
theorem a3b (he:PE X e ta)(hb:attributeBase e f X.env (eval e X.env)=eval e X.env):PE X (.Attribute e f pos) (tFld X.K ta f):=by
 intro pins s σ H Q I h;refine attr_of hb (thn (he pins s σ H _ I h) fun u s1 hq9=>?_);obtain⟨x,H1,I1,rx,a,C,dx,fs,v,ex,ea,c,n,l,q⟩:=hq9;subst ex;obtain rfl:u=A3b a:=rx;exact getattr_ok I1 ea c n l fun u' s2 I2 ru=>⟨v,H1,I2,ru,q⟩
theorem b5j (ha:PE X o ta)(hv:PE X value tv)(hs:swapsWith value (some (.Attribute o f pos')) pos.line X.env=pure false):PS X (.Assign [.Attribute o f pos'] value pos) (sFld X.K ta tv f):=by
 intro pins s σ H D I h;refine plainObj_wpAny_Assign_Attribute (thn (hv pins s σ H _ I h) fun u s1 ⟨y,H1,I1,ry,q⟩=>thn (ha pins s1 σ H1 _ I1 q) fun ov s2 ⟨x,H2,I2,rx,a,C,dx,fs,ex,ea,c,n,l,q2⟩=>?_) hs;subst ex;obtain rfl:ov=A3b a:=rx;exact setattr_ok I2 ea c n l ry fun s3 I3=>⟨σ,_,I3,q2⟩
end
section
variable {X:Cx}{pins:List (Addr×Obj)}{σ:St}{H:Hp}{s:Shared}{A:Around}{E:Value->Shared->Prop}{Q:Value->Shared->Prop}{c:Value}{b:Bool}
inductive c5j (K:A0a) (H:Hp):V->Value->Prop where
 | non:c5j K H .non (.type "NoneType")
 | bl (x:Bool):c5j K H (.bl x) (.type "bool")
 | int (i:Int):c5j K H (.int i) (.type "int")
 | str (x:Str):c5j K H (.str x) (.type "str")
 | flt (x:UInt64):c5j K H (.flt x) (.type "float")
 | lst {a:Addr} {xs:List V} (e:H a=some (.lst xs)):c5j K H (.ref a) (.type "list")
 | frz {a:Addr} {o:Obj} {xs:List V} (e:H a=some (.frz o (.lst xs))):c5j K H (.ref a) (.type "list")
 | tup {a:Addr} {xs:List V} (e:H a=some (.tup xs)):c5j K H (.ref a) (.type "tuple")
 | dK {a:Addr} {kvs:List (Key×V)} (e:H a=some (.dK kvs)):c5j K H (.ref a) (.type "dict")
 | dT {a:Addr} {kvs:List (List Key×V)} (e:H a=some (.dT kvs)):c5j K H (.ref a) (.type "dict")
 | ins {a C dx:Addr} {fs:List (Str×V)} (e:H a=some (.ins C dx fs)) (cl:Cls K C) (ha:A2n K (.ref C) "__class__" = some (some (.builtin "object.__class__")))
   (hn:A6h K (.builtin "object.__class__") "__get__" = some (some (.builtin "getset_descriptor.__get__"))) (htk:PySem.W.takesIn K (.builtin "object.__class__")=some true)
   (hm:B1m K C (.type "object")=some true):c5j K H (.ref a) (.ref C)
theorem isinst_ok {x:V}{t:Value}(I:Inv X pins σ H s)(rx:a8e x u)(ty:c5j X.K H x t)(e:A2p X.K t c=some b)(h:∀tk,Q (.bool b) { s with toks:=tk }) :
  wpAny (model X.prog X.w) A (call (.builtin "isinstance") [u,c]) Q E s:=by
 cases ty with
 | non=>cases (show u=B1w from rx);exact A3h PySem.W.kitx_none I.kIn A6w e (fun z=>nomatch z) h
 | bl y=>cases (show u=B1a y from rx);exact A3h PySem.W.kitx_bool I.kIn A6w e (fun z=>nomatch z) h
 | int i=>obtain⟨t,q⟩:=(show ∃t,u=A7b i t from rx);cases q;exact A3h PySem.W.kitx_int I.kIn A6w e (fun z=>nomatch z) h
 | str y=>obtain⟨t,q⟩:=(show ∃t,u=B1h y t from rx);cases q;exact A3h PySem.W.kitx_str I.kIn A6w e (fun z=>nomatch z) h
 | flt y=>obtain⟨t,q⟩:=(show ∃t,u=B2h y t from rx);cases q;exact A3h PySem.W.kitx_float I.kIn A6w e (fun z=>nomatch z) h
 | @lst a xs ea=>
  cases (show u=A3b a from rx);obtain⟨_,_,n,_,h1⟩:=(show a8s X.prog X.w H s.heap a (.lst xs) from I.hok a _ ea);exact A3h B1x I.kIn ⟨_,h1,rfl⟩ e (fun z=>nomatch z) h
 | @frz a ob xs ea=>
  cases (show u=A3b a from rx);obtain⟨_,_,_,n,_,h1⟩:=(show a8s X.prog X.w H s.heap a (.frz ob (.lst xs)) from I.hok a _ ea);exact A3h B1x I.kIn ⟨_,h1,rfl⟩ e (fun z=>nomatch z) h
 | @tup a xs ea=>
  cases (show u=A3b a from rx);obtain⟨_,_,_,p⟩:=(show a8s X.prog X.w H s.heap a (.tup xs) from I.hok a _ ea);obtain⟨o,h1,h2,_⟩:=p;exact A3h PySem.W.kitx_tuple I.kIn ⟨o,h1,h2⟩ e (fun z=>nomatch z) h
 | @dK a kvs ea=>
  cases (show u=A3b a from rx);obtain⟨_,_,vs,_,p⟩:=(show a8s X.prog X.w H s.heap a (.dK kvs) from I.hok a _ ea);obtain⟨o,es,ep,h1,h2,_⟩:=p;exact A3h B1y I.kIn ⟨o,h1,h2.1⟩ e (fun z=>nomatch z) h
 | @dT a kvs ea=>
  cases (show u=A3b a from rx);obtain⟨_,_,xs,_,o,es,ep,h1,h2,_⟩:=(show a8s X.prog X.w H s.heap a (.dT kvs) from I.hok a _ ea);exact A3h B1y I.kIn ⟨o,h1,h2.1⟩ e (fun z=>nomatch z) h
 | @ins a C dx fs ea cl ha hn htk hm=>
  cases (show u=A3b a from rx);obtain⟨mA,O,_⟩:=d5d I.hok ea;obtain⟨od,J,_⟩:=O.look;exact A3h (PySem.W.kitx_own (cl.get _) cl.hd ha hn htk hm) I.kIn J e (fun z=>nomatch z) h
end
structure b8b (k:Nat)(A:Around):Prop where
 hd:A.handled=none
 dp:A.depth+3*k+5<recursionLimit
 un:A.units+16*k+200<cLine
theorem b8b.mono (r:b8b k A)(h:j<=k):b8b j A:=⟨r.hd,by have:=r.dp;omega,by have:=r.un;omega⟩
theorem b8b.deeper {k:Nat}{A:Around}(r:b8b (k+1) A)(env:Env):b8b k (A.deeper env):=
 ⟨r.hd,by have:=r.dp;show A.depth+1+3*k+5<_;omega,by have:=r.un;show A.units+3+16*k+200<_;omega⟩
theorem make_depth :(A.under (.builtin "type.__call__" ⟨.ref C::us,kw⟩)).depth=A.depth+1:=by
 first|rfl|simp[B2c,Code.weight,Code.isCreation,Code.isGuard,Code.isCaller,Code.frames,B2d,guardIds]
theorem make_units :(A.under (.builtin "type.__call__" ⟨.ref C::us,kw⟩)).units=A.units+1:=by
 first|rfl|simp[B2c,Code.cUnits,Code.frames,B2d]
theorem b8b.make (r:b8b (k+1) A)(C:Addr)(us:List Value)(kw:List (Str×Value)):b8b k (A.under (.builtin "type.__call__" ⟨.ref C::us,kw⟩)):=
 ⟨r.hd,by have:=r.dp;rw[make_depth];omega,by have:=r.un;rw[make_units];omega⟩
theorem b8b.depth {k:Nat}{A:Around}(r:b8b k A):A.depth<recursionLimit:=by have:=r.dp;omega
theorem b8b.units {k:Nat}{A:Around}(r:b8b k A):A.units+64<cLine:=by have:=r.un;omega
def tNil:TA:=fun _ H Q=>Q [] H
def c4p (ta:TE)(tr:TA):TA:=fun σ H Q=>ta σ H fun x H1=>tr σ H1 fun xs H2=>Q (x::xs) H2
section
variable {X:Cx}{e:Expr}{es:List Expr}{te:TE}{t:TA}{pos:Pos}
theorem a0c:PA X [] tNil:=fun _ _ _ _ H Q I h=>Calls.spliced_nil ⟨[],H,I,.nil,h⟩
theorem a0a (ha:PE X e te)(hr:PA X es t)(hs:starEach (e::es) X.env=(false,eval e X.env)::starEach es X.env:=by rfl):PA X (e::es) (c4p te t):=by
 intro pos pins s σ H Q I h;rw[hs];show wpAny _ _ (spliced ((false,eval e X.env)::backTo pos (starEach es X.env))) _ _ s;refine A8y (thn (ha pins s σ H _ I h) fun u s1 hq9=>?_);obtain⟨x,H1,I1,r1,q1⟩:=hq9;exact thn (hr pos pins s1 σ H1 _ I1 q1) fun us s2 ⟨xs,H2,I2,r2,q2⟩=>⟨x::xs,H2,I2,.cons r1 r2,q2⟩
def tTup (t:TA):TE:=fun σ H Q=>t σ H fun xs H1=>xs.length<=sizeLine/\∀p,H1 p=none->Q (.ref p) (upd H1 p (.tup xs))
def tLst (t:TA):TE:=fun σ H Q=>t σ H fun xs H1=>xs.length<=sizeLine/\∀p,H1 p=none->Q (.ref p) (upd H1 p (.lst xs))
theorem a1m {x1}(h:PA X es t):PE X (.Tuple es x1 pos) (tTup t):=by
 intro pins s σ H Q I hq;refine wpAny_Tuple_spliced (thn (h pos pins s σ H _ I hq) fun us s1 ⟨xs,H1,I1,r,z,q⟩=>⟨by rw[<- r.length];exact z,?_⟩);have hf:H1 s1.heap.objs.size=none:=I1.hok.fresh (A0k _);refine⟨.ref s1.heap.objs.size,upd H1 s1.heap.objs.size (.tup xs),I1.laid (t':=s1.toks) (fun b u e=>Heap.get?_push_of_some _ e) (A0k _) ?_,rfl,q _ hf⟩;exact⟨z,us,r,⟨_,Heap.get?_push_size _ rfl,rfl,_,rfl⟩⟩
theorem a5c (h:PA X es t):PE X (.List es pos) (tLst t):=by
 intro pins s σ H Q I hq;refine wpAny_List_spliced (thn (h pos pins s σ H _ I hq) fun us s1 ⟨xs,H1,I1,r,z,q⟩=>⟨by rw[<- r.length];exact z,?_⟩);have hf:H1 s1.heap.objs.size=none:=I1.hok.fresh (A0k _);refine⟨.ref s1.heap.objs.size,upd H1 s1.heap.objs.size (.lst xs),I1.laid (t':=s1.toks) (fun b u e=>Heap.get?_push_of_some _ e) (A0k _) ?_,rfl,q _ hf⟩;exact⟨z,us,0,r,Heap.get?_push_size _ rfl⟩
end
abbrev Sp:=List V->Hp->VK->XK->Prop
abbrev CXT:=List Env->Hp->Shared->XK->Value->Shared->Prop
structure Env0 (P:Program)(w:World)(K:A0a)(mg:Str->Option Value)(base:Heap)(A:Around)(outer:List Env)(s:Shared)(H:Hp):Prop where
 frames:A.frames=some outer
 mod:Mod K mg base
 bs:∀b o,base.get? b=some o->s.heap.get? b=some o/\H b=none
 bsz:base.objs.size<=s.heap.objs.size
 funs:s.heap.FunFrames base outer
 frf:∀b∈frs outer,H b=none
 hok:HOk P w H s.heap
 bare:AllBare s.gens
def CE (outer:List Env)(P:Program)(w:World)(H:Hp)(s:Shared)(Q:VK)(u:Value)(s':Shared):Prop:=
 ∃v H',s'.os=s.os/\AllBare s'.gens/\Un (frs outer) [] H H' s.heap s'.heap/\HOk P w H' s'.heap/\a8e v u/\Q v H'
def CR (CX:CXT)(outer:List Env)(P:Program)(w:World)(H:Hp)(s:Shared)(Q:VK)(E:XK)(r:Result)(s':Shared):Prop:=
 match r with
 | .ok (.ret u)=>CE outer P w H s Q u s'
 | .ok _=>False
 | .error e=>CX outer H s E e s'
structure a2n (P:Program)(w:World)(K:A0a)(mg:Str->Option Value)(base:Heap)(CX:CXT)(k:Nat)(f:Addr)(fd:FuncData)(ps:List Str)(sp:Sp):Prop where
 len:∀vs H Q E,sp vs H Q E->vs.length=ps.length
 run:∀(A:Around) (outer:List Env) (s:Shared) (H:Hp) (args:Args) (us:List Value) (vs:List V) (Q:VK) (E:XK),b8b k A->Env0 P w K mg base A outer s H->BindsTo s fd args (ps.zip us)->a5q vs us->sp vs H Q E->
  codeAny (model P w) A (.call (.ref f) args) (CR CX outer P w H s Q E) s
theorem a2n.mono {P:Program}{w:World}{K:A0a}{mg:Str->Option Value}{base:Heap}{CX:CXT}{j k:Nat}{f:Addr}{fd:FuncData}{ps:List Str}{sp:Sp}(F:a2n P w K mg base CX j f fd ps sp)(h:j<=k) :
  a2n P w K mg base CX k f fd ps sp:=⟨F.len,fun A outer s H args us vs Q E hr=>F.run A outer s H args us vs Q E (hr.mono h)⟩
theorem Env0.make {w:World}{mg:Str->Option Value}{base:Heap}{outer:List Env}{H:Hp}(e:Env0 P w K mg base A outer s H)(C:Addr)(us:List Value)(kw:List (Str×Value)) :
  Env0 P w K mg base (A.under (.builtin "type.__call__" ⟨.ref C::us,kw⟩)) outer s H:=⟨by first|exact e.frames|(simpa[B2c,Code.envs,B2d,pushEnvs] using e.frames),e.mod,e.bs,e.bsz,e.funs,e.frf,e.hok,e.bare⟩
section
variable {X:Cx}{pins:List (Addr×Obj)}{σ:St}{H:Hp}{s s':Shared}
theorem Inv.env0 (I:Inv X pins σ H s):Env0 X.prog X.w X.K X.mg X.base X.A X.stack s H:=
 ⟨I.ok.frames,I.ok.mod,I.bs,A1z I.ok.bsz I.sz,I.stack,I.stkFree,I.hok,I.bare⟩
theorem Inv.after {Q:VK}(I:Inv X pins σ H s)(h:CE X.stack X.prog X.w H s Q u s'):EP X pins σ Q u s':=by
 obtain⟨v,H',os,bare,un,hok,r,q⟩:=h;obtain⟨hh,g,d,t,os'⟩:=s';obtain rfl:os'=s.os:=os;exact⟨v,H',I.call (h':=hh) (g':=g) (d':=d) (t':=t) (ch:=[]) un hok bare (fun b z=>absurd z (by simp)),r,q⟩
end
def tCall (sp:Sp)(dvs:List V)(E:XK)(t:TA):TE:=fun σ H Q=>t σ H fun vs H1=>sp (vs++dvs) H1 Q E
def tMake (C:Addr)(sp:Sp)(dvs:List V)(E:XK)(t:TA):TE:=fun σ H Q=>t σ H fun vs H1=>∀x dx,H1 x=none->H1 dx=none->dx≠x->
 sp (.ref x::(vs++dvs)) (upd (upd H1 dx (.own x)) x (.ins C dx [])) (fun v H2=>v=.non/\Q (.ref x) H2) E
def c1m (K:A0a)(fd:FuncData)(ps:List Str)(ds:List Value):Prop:=
 ∀(s:Shared) (us:List Value),K.In s.heap->(us++ds).length=ps.length->BindsTo s fd ⟨us,[]⟩ (ps.zip (us++ds))
theorem c1m.all {fd:FuncData}(h:∀us:List Value,us.length=ps.length->bindArgs fd ⟨us,[]⟩=pure (ps.zip us)):c1m K fd ps []:=fun s us _ hl=>by
 rw[A3d] at hl ⊢;exact .of_eq (h us hl)
def b5c (CX:CXT)(X:Cx)(E:XK):Prop:=∀(pins:List (Addr×Obj)) (σ:St) (H:Hp) (s:Shared) (e:Value) (s':Shared),Inv X pins σ H s->CX X.stack H s E e s'->X.xe e s'
section
variable {X:Cx}{CX:CXT}{k:Nat}{f C:Addr}{fd:FuncData}{ps:List Str}{sp:Sp}{dvs:List V}{ds:List Value}{E:XK}{x m:Str}{p pos apos:Pos}{e o:Expr}{es:List Expr}{ta:TE}{t:TA}
theorem run_fn {σ:St}{H:Hp}{Q:VK}{vs:List V}(F:a2n X.prog X.w X.K X.mg X.base CX k f fd ps sp)(hr:b8b k X.A)(hb:c1m X.K fd ps ds)(hd:a5q dvs ds)(hx:b5c CX X E)
  (I:Inv X pins σ H s) (r:a5q vs us) (h:sp (vs++dvs) H Q E):wpAny (model X.prog X.w) X.A (call (.ref f) us) (EP X pins σ Q) X.xe s:=by
 have r2:a5q (vs++dvs) (us++ds):=r.append hd;have hl:(us++ds).length=ps.length:=by rw[<- r2.length];exact F.len _ _ _ _ h
 refine wpAny_call (A8z (F.run X.A X.stack s H ⟨us,[]⟩ (us++ds) (vs++dvs) Q E hr I.env0 (hb s us I.kIn hl) r2 h) fun r s' hq=>?_)
 cases r with
 | error e=>exact hx pins σ H s e s' I hq
 | ok fl=>
  cases fl with
  | ret u=>exact I.after hq
  | next=>exact A4c hq
  | brk=>exact A4c hq
  | cont=>exact A4c hq
theorem pe_call (F:a2n X.prog X.w X.K X.mg X.base CX k f fd ps sp)(hr:b8b k X.A)(hg:Gl X x)(hm:X.mg x=some (.ref f))(hk:A3f X.K (.ref f)=true)(hb:c1m X.K fd ps ds)(hd:a5q dvs ds)(hx:b5c CX X E)
  (ha:PA X (e::es) t) (hdb:(x==("__debug__":Str))=false:=by decide) (he:starEach (e::es) X.env=(false,eval e X.env)::starEach es X.env:=by rfl) (hpl:(backTo pos (starEach es X.env)).any (·.1)=false:=by rfl) :
  PE X (.Call (.Name x p) (e::es) [] pos) (tCall sp dvs E t):=by
 intro pins s σ H Q I h;refine A5t (c8b I hg hm ?_ hdb);refine A4w (h₀:=X.base) I.ok.mod.kin hk (thn (ha pos pins s σ H _ I h) fun us s1 ⟨vs,H1,I1,r,q⟩=>⟨I1.kIn,?_⟩) he hpl;exact run_fn F hr hb hd hx I1 r q
structure Mk (K:A0a)(C f:Addr):Prop where
 makes:B0q K C=true
 init:A2n K (.ref C) "__init__" = some (some (.ref f))
 fn:A1b K (.ref f)=true
 kp:A3f K (.ref C)=true
theorem run_make {σ:St}{H:Hp}{Q:VK}{vs:List V}(M:Mk X.K C f)(F:a2n X.prog X.w X.K X.mg X.base CX k f fd ps sp)(hr:b8b (k+1) X.A)(hb:c1m X.K fd ps ds)(hd:a5q dvs ds)
  (hx:b5c CX X E) (I:Inv X pins σ H s) (r:a5q vs us)
  (h:∀x dx,H x=none->H dx=none->dx≠x->sp (.ref x::(vs++dvs)) (upd (upd H dx (.own x)) x (.ins C dx [])) (fun v H2=>v=.non/\Q (.ref x) H2) E) :
  wpAny (model X.prog X.w) X.A (call (.ref C) us) (EP X pins σ Q) X.xe s:=by
 have hq:=h (s.heap.objs.size+1) s.heap.objs.size (I.hok.fresh (A5x _)) (I.hok.fresh (A0k _)) (A2r (A4a _));have I2:=Inv.made (C:=C) I;have r2:a5q (V.ref (s.heap.objs.size+1)::(vs++dvs)) (A3b (s.heap.objs.size+1)::(us++ds)):=.cons rfl (r.append hd)
 have hl:(A3b (s.heap.objs.size+1)::us++ds).length=ps.length:=by
  have e:=r2.length;rw[F.len _ _ _ _ hq] at e;exact e.symm
 refine wpAny_call (make_map (f:=f) I.kIn M.makes M.init (beq_iff_eq.mp M.fn) (A8z (F.run _ X.stack _ _ ⟨A3b (s.heap.objs.size+1)::us,[]⟩ (A3b (s.heap.objs.size+1)::(us++ds)) _ _ E (hr.make C us [])
  (I2.env0.make C us []) (hb _ (A3b (s.heap.objs.size+1)::us) I2.kIn hl) r2 hq) fun r s' hq'=>?_))
 cases r with
 | error e=>exact hx pins σ _ _ e s' I2 hq'
 | ok fl=>
  cases fl with
  | ret u=>
   obtain⟨v,H',I3,rv,ev,q3⟩:=I2.after hq';subst ev;exact⟨rv,⟨V.ref (s.heap.objs.size+1),H',I3,rfl,q3⟩⟩
  | next=>exact A4c hq'
  | brk=>exact A4c hq'
  | cont=>exact A4c hq'
theorem pe_make (M:Mk X.K C f)(F:a2n X.prog X.w X.K X.mg X.base CX k f fd ps sp)(hr:b8b (k+1) X.A)(hg:Gl X x)(hm:X.mg x=some (.ref C))(hb:c1m X.K fd ps ds)(hd:a5q dvs ds)(hx:b5c CX X E)
  (ha:PA X (e::es) t) (hdb:(x==("__debug__":Str))=false:=by decide) (he:starEach (e::es) X.env=(false,eval e X.env)::starEach es X.env:=by rfl) (hpl:(backTo pos (starEach es X.env)).any (·.1)=false:=by rfl) :
  PE X (.Call (.Name x p) (e::es) [] pos) (tMake C sp dvs E t):=by
 intro pins s σ H Q I h;refine A5t (c8b I hg hm ?_ hdb);refine A4w (h₀:=X.base) I.ok.mod.kin M.kp (thn (ha pos pins s σ H _ I h) fun us s1 ⟨vs,H1,I1,r,q⟩=>⟨I1.kIn,?_⟩) he hpl;exact run_make M F hr hb hd hx I1 r q
end
section
variable {X:Cx}{CX:CXT}{k:Nat}{f C:Addr}{fd:FuncData}{ps ks:List Str}{sp:Sp}{E:XK}{x m:Str}{p pos apos kpos:Pos}{e o:Expr}{es:List Expr}{kws:List Keyword}{te ta:TE}{t tk:TA}{nm:Option Str}
variable {g:List Value->List Value->List Value}{gV:List V->List V->List V}
end
structure a0n (N P:List Str)(sc:Scope):Prop where
 kind:sc.kind=.function
 co:sc.isCoroutine=false
 gen:sc.isGenerator=false
 nd:N.Nodup
 pre:N.take P.length=P
 par:∀x∈P,sc.names.lookup x=some .local\/sc.names.lookup x=some .cell
 nofree:∀y∈sc.names,y.2≠.free
theorem bindL_out {kindOf:Str->Option NameKind}{x:Str}:∀{binds:List (Str×Value)} {m:Str->Option Value},(∀v,(x,v)∉binds)->bindL kindOf binds m x=m x
 | [],_,_=>rfl
 | (n,v)::r,m,h=>by
  unfold bindL;rw[bindL_out fun w hw=>h w (A0e _ hw)]
  split
  ·have:x≠n:=by rintro rfl;exact h v A0d
   simp[this]
  ·rfl
theorem bindC_out {kindOf:Str->Option NameKind}{x:Str}:∀{binds:List (Str×Value)} {m:Str->Option Value},(∀v,(x,v)∉binds)->bindC kindOf binds m x=m x
 | [],_,_=>rfl
 | (n,v)::r,m,h=>by
  unfold bindC;rw[bindC_out fun w hw=>h w (A0e _ hw)]
  split
  ·rfl
  ·have:x≠n:=by rintro rfl;exact h v A0d
   simp[this]
theorem bindL_get {kindOf:Str->Option NameKind}{x:Str}{v:Value}:∀{P:List Str} {vs:List Value} {i:Nat} {m:Str->Option Value},P.Nodup->P[i]? = some x->vs[i]? = some v->kindOf x=some .local->
  bindL kindOf (P.zip vs) m x=some v
 | [],_,_,_,_,h,_,_=>by simp at h
 | _::_,[],_,_,_,_,h,_=>by simp at h
 | p::P,w::vs,0,m,nd,h1,h2,hk=>by
  simp at h1 h2;subst h1;subst h2;show bindL kindOf ((p,w)::P.zip vs) m p=_;unfold bindL;rw[bindL_out fun v hv=>(List.nodup_cons.mp nd).1 (B0r hv).1,if_pos hk];simp
 | p::P,w::vs,i+1,m,nd,h1,h2,hk=>by
  show bindL kindOf ((p,w)::P.zip vs) m x=_;unfold bindL;exact bindL_get (i:=i) (List.nodup_cons.mp nd).2 (by simpa using h1) (by simpa using h2) hk
theorem bindC_get {kindOf:Str->Option NameKind}{x:Str}{v:Value}:∀{P:List Str} {vs:List Value} {i:Nat} {m:Str->Option Value},P.Nodup->P[i]? = some x->vs[i]? = some v->kindOf x≠some .local->
  bindC kindOf (P.zip vs) m x=some v
 | [],_,_,_,_,h,_,_=>by simp at h
 | _::_,[],_,_,_,_,h,_=>by simp at h
 | p::P,w::vs,0,m,nd,h1,h2,hk=>by
  simp at h1 h2;subst h1;subst h2;show bindC kindOf ((p,w)::P.zip vs) m p=_;unfold bindC;rw[bindC_out fun v hv=>(List.nodup_cons.mp nd).1 (B0r hv).1,if_neg hk];simp
 | p::P,w::vs,i+1,m,nd,h1,h2,hk=>by
  show bindC kindOf ((p,w)::P.zip vs) m x=_;unfold bindC;exact bindC_get (i:=i) (List.nodup_cons.mp nd).2 (by simpa using h1) (by simpa using h2) hk
def start (N:List Str)(vs:List V):St:=vs.map some++A1u (N.length-vs.length) none
def cxOf (CX:CXT)(P:Program)(w:World)(K:A0a)(mg:Str->Option Value)(base:Heap)(N:List Str)(qual:Str)(scope:Scope)(f:Addr)(cd:Value)(A:Around)(outer:List Env)(s:Shared)(H:Hp)(E:XK):Cx where
 prog:=P
 w:=w
 K:=K
 mg:=mg
 base:=base
 A:=A.deeper (envOfC qual scope s.heap.objs.size f cd)
 N:=N
 s₀:=s
 H₀:=H
 env:=envOfC qual scope s.heap.objs.size f cd
 outer:=outer
 stack:=envOfC qual scope s.heap.objs.size f cd::outer
 ex:=[]
 calm:=true
 fn:=fun _=>true
 pn:=[]
 xe:=fun e s'=>wpAny (model P w) (A.deeper (envOfC qual scope s.heap.objs.size f cd)) (leaving (envOfC qual scope s.heap.objs.size f cd) e) (fun _ s''=>CX outer H s E e s'') (fun e' s''=>CX outer H s E e' s'') s'
theorem cell_has {sc:Scope}{n:Nat}(h:sc.names.lookup x=some .cell):∃c,(cellsFrom n sc.names []).lookup x=some c:=by
 have q:=B0j sc.names n [] (.inl h);exact Option.isSome_iff_exists.mp q
theorem inv_start {CX:CXT}{w:World}{mg:Str->Option Value}{base:Heap}{cd:Value}{outer:List Env}{s1:Shared}{H:Hp}{E:XK}{vs:List V}
  (S:a0n N ps scope) (hd:A.handled=none) (e0:Env0 P w K mg base A outer s H) (hl:vs.length=ps.length) (r:a5q vs us)
  (x:InCallC s s.heap.objs.size (bindL (envOfC qual scope s.heap.objs.size f cd).kindOf (ps.zip us) fun _=>none) (cellsFrom (s.heap.objs.size+1) scope.names []) (bindC (envOfC qual scope s.heap.objs.size f cd).kindOf (ps.zip us) fun _=>none) s1) :
  Inv (cxOf CX P w K mg base N qual scope f cd A outer s H E) [] (start N vs) H s1:=by
 have hpl:ps.length<=N.length:=by have:=congrArg List.length S.pre;rw[A0q] at this;omega
 obtain⟨h1,tk,rfl,hk⟩:=x.done;have noA:∀b:Addr,b∉(cxOf CX P w K mg base N qual scope f cd A outer s H E).ex:=fun b z=>absurd (show b∈([]:List Addr) from z) (by simp)
 refine⟨⟨e0.mod,S.kind,rfl,rfl,A0k _,fun y z c h1 h2=>?_,fun y hy=>?_,fun y c _ h=>?_,fun _=>hd,Around.frames_deeper e0.frames,.inr ⟨rfl,rfl⟩,fun b z=>absurd z (noA b),e0.bs,e0.bsz,fun b _ _=>noA b,fun b z=>absurd z (noA b),e0.funs,e0.frf⟩,
  rfl,e0.bare,Un.kept hk,⟨_,x.toInCall.ns,fun i y v h1 h2 h3=>?_⟩,fun y c h=>⟨_,x.cell y c h⟩,e0.hok.fresh (A0k _),fun y c h=>?_,fun p hp=>absurd (show p∈([]:List (Addr×Obj)) from hp) (by simp),e0.hok.kept hk,?_⟩
 ·exact name_of_addr x.apart (A5k h1) (A5k h2)
 ·have hy:scope.names.lookup y=some .cell\/scope.names.lookup y=some .free:=hy
  rcases hy with hy|hy
  ·exact cell_has hy
  ·exact absurd rfl (S.nofree _ (A5k hy))
 ·exact A3q (x.above y c (A5k h))
 ·have hi:i<vs.length:=by
   unfold start at h2
   by_cases hi:i<vs.length
   ·exact hi
   ·rw[List.getElem?_append_right (by simpa using hi)] at h2;rw[List.getElem?_replicate] at h2
    split at h2<;>cases h2
  have ha:vs[i]? = some v:=by
   unfold start at h2;rw[List.getElem?_append_left (by simpa using hi),List.getElem?_map] at h2
   cases e:vs[i]? with
   | none=>rw[e] at h2;cases h2
   | some a=>rw[e] at h2;cases h2;rfl
  obtain⟨u,hu,rv⟩:=r.get ha
  have hp:ps[i]? = some y:=by
   rw[<- S.pre,List.getElem?_take_of_lt (by omega)];exact h1
  have ndP:ps.Nodup:=by rw[<- S.pre];exact S.nd.sublist (List.take_sublist _ _)
  refine⟨u,rv,?_⟩
  rcases S.par y (List.mem_of_getElem? hp) with k|k
  ·exact .inl ⟨k,bindL_get ndP hp hu k⟩
  ·obtain⟨c,e⟩:=cell_has (n:=s.heap.objs.size+1) k;refine .inr ⟨.inl k,c,e,?_⟩;have q:=x.cell y c e;rw[bindC_get ndP hp hu (by show scope.names.lookup y≠_;rw[k];decide)] at q;exact q
 ·exact e0.hok.fresh (A3q (x.above y c (A5k h)))
 ·unfold start;show _=N.length;rw[A0j,A0b,A4e];omega
theorem fn_of {CX:CXT}{P:Program}{w:World}{mg:Str->Option Value}{base:Heap}{name:Str}{params:Arguments}{dV kV doc pm cdv ct oc:Value}{an od:Option Addr}
  {osl:Array (Option Value)} {N ps:List Str} {sp:Sp} (lk:K.lookup f=some ⟨oc,od,.func (A3s name qual params body scope dV kV doc pm an cdv ct),osl⟩) (hcd:A5r K cdv qual=true) (S:a0n N ps scope)
  (len:∀vs H Q E,sp vs H Q E->vs.length=ps.length)
  (hbody:∀(A:Around) (outer:List Env) (s:Shared) (H:Hp) (vs:List V) (Q:VK) (E:XK),b8b k (A.deeper (envOfC qual scope s.heap.objs.size f cdv))->sp vs H Q E->
   ∃t,PSs (cxOf CX P w K mg base N qual scope f cdv A outer s H E) body t/\t { nx:=fun _ H'=>Q .non H',rt:=Q } (start N vs) H) :
  a2n P w K mg base CX (k+1) f (A3s name qual params body scope dV kV doc pm an cdv ct) ps sp:=by
 refine⟨len,fun A outer s H args us vs Q E hr e0 hb r hsp=>?_⟩;have hl:=len _ _ _ _ hsp;have KX:K.In s.heap:=e0.mod.kin.keeps fun b o e=>(e0.bs b o e).1;have lim:s.heap.NoLimit:=e0.mod.nolimit.keeps fun b o e=>(e0.bs b o e).1
 have hkind:∀y∈ps.zip us,scope.names.lookup y.1=some .local\/(scope.names.lookup y.1=some .cell/\((cellsFrom (s.heap.objs.size+1) scope.names []).lookup y.1).isSome=true):=fun⟨n,v⟩ hy=>by
  rcases S.par n (B0r hy).1 with q|q
  ·exact .inl q
  ·exact .inr ⟨q,B0j _ _ _ (.inl q)⟩
 refine codeAny_call_function hr.depth (KX _ _ lk) rfl S.co S.gen rfl (PySem.W.codeRec_of KX hcd) (hb _ _ _ _ ?_);refine wpAny_newFunctionEnv_cells S.kind hkind fun env he s1 x=>?_;subst he;refine⟨lim.keeps x.toInCall.keep,codeAny_func ?_⟩;obtain⟨t,ht,hq⟩:=hbody A outer s H vs Q E (hr.deeper _) hsp;have I:Inv (cxOf CX P w K mg base N qual scope f cdv A outer s H E) [] (start N vs) H s1:=inv_start S hr.hd e0 hl r x;refine A2u (ht [] s1 (start N vs) H _ I hq) (fun fl s' hs=>?_) fun e s' hs=>hs
 have fin:∀{σ':St} {H':Hp} {v:V} {u:Value},Inv (cxOf CX P w K mg base N qual scope f cdv A outer s H E) [] σ' H' s'->a8e v u->Q v H'->CE outer P w H s Q u s':=
  fun {σ' H' v u} J rv q=>⟨v,H',J.os,J.bare,J.base,J.hok,rv,q⟩
 cases fl with
 | ret u=>
  obtain⟨v,σ',H',J,rv,q⟩:=hs;exact fin J rv q
 | next=>
  obtain⟨σ',H',J,q⟩:=hs;exact fin (v:=V.non) (u:=B1w) J rfl q
 | brk=>
  obtain⟨_,_,_,q⟩:=hs;exact A4c q
 | cont=>
  obtain⟨_,_,_,q⟩:=hs;exact A4c q
section
variable {X:Cx}{x:Str}{p pos:Pos}{e:Expr}{es:List Expr}{t:TA}{id T:String}{r:List V->Hp->VK->Prop}
def tCB (r:List V->Hp->VK->Prop)(t:TA):TE:=fun σ H Q=>t σ H fun vs H1=>r vs H1 Q
theorem a1x (hc:b2z X (.builtin id) r)(hg:Gl X x)(hm:X.mg x=none)(hv:bootBuiltins x=some (.builtin id))(ha:PA X (e::es) t)(hn:x ≠ "__name__":=by decide)(hdb:(x==("__debug__":Str))=false:=by decide)
  (he:starEach (e::es) X.env=(false,eval e X.env)::starEach es X.env:=by rfl) (hpl:(backTo pos (starEach es X.env)).any (·.1)=false:=by rfl):PE X (.Call (.Name x p) (e::es) [] pos) (tCB r t):=by
 intro pins s σ H Q I h;refine A5t (c4f I hg hm hv ?_ hn hdb);exact PyProof.Rows.callWith_builtin1 (thn (ha pos pins s σ H _ I h) fun us s1 ⟨vs,H1,I1,r1,q1⟩=>hc pins s1 σ H1 vs us Q I1 r1 q1) he hpl
theorem a9a (hc:b2z X (.type T) r)(hg:Gl X x)(hm:X.mg x=none)(hv:bootBuiltins x=some (.type T))(ha:PA X (e::es) t)(hn:x ≠ "__name__":=by decide)(hdb:(x==("__debug__":Str))=false:=by decide)
  (he:starEach (e::es) X.env=(false,eval e X.env)::starEach es X.env:=by rfl) (hpl:(backTo pos (starEach es X.env)).any (·.1)=false:=by rfl):PE X (.Call (.Name x p) (e::es) [] pos) (tCB r t):=by
 intro pins s σ H Q I h;refine A5t (c4f I hg hm hv ?_ hn hdb);exact A3c (thn (ha pos pins s σ H _ I h) fun us s1 ⟨vs,H1,I1,r1,q1⟩=>hc pins s1 σ H1 vs us Q I1 r1 q1) he hpl
end
end L2
namespace HT
open PySem PyProof.Rows
variable {sl t:Addr}{hi lo:Option Int}{vl vu:Value}
section
open PySem.SeqAt
open PySem.AutoSeq1 (wpAny_loadPart')
open PySem.MeetsSeq PySem.MeetsSeq2 PySem.MeetsSeq3
end
section
variable {prog:Program}{w:World}{A:Around}{E:Value->Shared->Prop}{s:Shared}
theorem cat_tup {b:Addr}{vs ws:List Value}{Q:Value->Shared->Prop}(ht:IsTup s.heap t vs.toArray)(hb:IsTup s.heap b ws.toArray)(hv:vs≠[])
  (h1:ws=[]->Q (.ref t) s) (h2:ws≠[]->Q (.ref s.heap.objs.size) { s with heap:=s.heap.push { cls:=.type "tuple",data:=.seq (vs++ws).toArray } })
  (hsz:vs.length+ws.length<=sizeLine):wpAny (model prog w) A (binaryOp .Add (.ref t) (.ref b)) Q E s:=by
 obtain⟨⟨cls,dd,data,sl⟩,ho,hc,n,hd⟩:=id ht;obtain⟨⟨cls2,dd2,data2,sl2⟩,ho2,hc2,n2,hd2⟩:=id hb;simp only at hc hd hc2 hd2;subst hc hd hc2 hd2;have e:vs.toArray++ws.toArray=(vs++ws).toArray:=by simp
 by_cases hw:ws=[]
 ·exact concat_meets ⟨_,ho,rfl⟩ ⟨_,ho2,rfl⟩ noFill_tuple_add seq_tuple_add B0k B0a (A9r _ _)
   (tuple_addW1 t b vs.toArray ws.toArray n n2 dd dd2 sl sl2 (by simpa using hv) (by simp[hw])) ⟨ho,ho2,h1 hw⟩
 ·refine concat_meets ⟨_,ho,rfl⟩ ⟨_,ho2,rfl⟩ noFill_tuple_add seq_tuple_add B0k B0a (A9r _ _)
   (tuple_addW2 t b vs.toArray ws.toArray n n2 dd dd2 sl sl2 (by simpa using hv) (by simpa using hw) (by rw[A0z,A0z];exact hsz)) ⟨ho,ho2,?_⟩
  rw[e];exact h2 hw
def sIx (n d:Nat):Option Int->Nat
 | none=>d
 | some v=>if v<0 then (v+(n:Int)).toNat else min v.toNat n
theorem sIx_none (n d:Nat):sIx n d none=d:=rfl
theorem sIx_nat (n d k:Nat):sIx n d (some (k:Int))=min k n:=by
 show (if (k:Int)<0 then ((k:Int)+(n:Int)).toNat else min (k:Int).toNat n)=min k n;rw[if_neg (by omega),A3t]
theorem sIx_le (n d:Nat)(hd:d<=n)(o:Option Int):sIx n d o<=n:=by
 cases o with
 | none=>exact hd
 | some v=>
  show (if v<0 then (v+(n:Int)).toNat else min v.toNat n)<=n
  by_cases hv:v<0
  ·rw[if_pos hv];omega
  ·rw[if_neg hv];exact Nat.min_le_right _ _
theorem clip_eq (v:Int)(n d:Nat):(if v<0 then max (v+(n:Int)) 0 else min v (n:Int))=((sIx n d (some v):Nat):Int):=by
 show (if v<0 then max (v+(n:Int)) 0 else min v (n:Int))=(((if v<0 then (v+(n:Int)).toNat else min v.toNat n):Nat):Int)
 by_cases hv:v<0
 ·simp only[if_pos hv];omega
 ·simp only[if_neg hv];omega
theorem adjust_gen (lo hi:Option Int)(n:Nat):A6p lo hi 1 (n:Int)=(((sIx n 0 lo:Nat):Int),((sIx n n hi:Nat):Int)):=by
 have h1:¬((1:Int)<0):=by omega
 unfold A6p;simp only[h1,if_false];refine Prod.ext ?_ ?_
 ·cases lo with
  | none=>rfl
  | some v=>exact clip_eq v n 0
 ·cases hi with
  | none=>rfl
  | some v=>exact clip_eq v n n
theorem places_gen (i j:Nat):A5a (i:Int) (j:Int) 1=j-i:=by
 unfold A5a;have h1:(1:Int)>0:=by omega
 simp only[h1,if_true,Int.ediv_one]
 split<;>omega
theorem d1x {v:Value}{o:Option Int}{Q:Option Int->Shared->Prop}(p:IsPart v o)(h:Q o s):wpAny (model prog w) A (Builtin.Slice.slicePartIndex v) Q E s:=by
 cases p with
 | none=>exact slicePart_none h
 | int i t=>exact slicePart_int h
theorem c5c {n:Nat}{Q:Int×Int×Nat->Shared->Prop}(hs:s.heap.IsSliceOf sl vl vu .none)(pl:IsPart vl lo)(pu:IsPart vu hi)
  (h:Q (((sIx n 0 lo:Nat):Int),1,sIx n n hi-sIx n 0 lo) s):wpAny (model prog w) A (A8v (.ref sl) (pure (n:Int))) Q E s:=by
 obtain⟨os,hos,hcs,hds⟩:=id hs;unfold A8v Builtin.Slice.sliceFields;refine A0n (A0n (A8p hos hds (x:=vl) rfl (A0n (A8p hos hds (x:=vu) rfl (A0n (A8p hos hds (x:=.none) rfl (A1e ?_)))))));refine A0n (slicePart_none ?_);show wpAny _ _ (if ((1:Int)==0)=true then _ else _) _ _ s;rw[if_neg (by decide)];refine A0n (d1x pl (A0n (d1x pu (A0n (A1e ?_)))));show wpAny _ _ (match A6p lo hi 1 (n:Int) with|(lo,hi)=>pure (lo,(1:Int),A5a lo hi 1)) _ _ s;rw[adjust_gen lo hi n];show wpAny _ _ (pure (((sIx n 0 lo:Nat):Int),(1:Int),A5a ((sIx n 0 lo:Nat):Int) ((sIx n n hi:Nat):Int) 1)) _ _ s;rw[places_gen];exact A1e h
theorem pick_gen (xs:Array Value)(i k:Nat):((A3a k).filterMap fun (m:Nat)=>xs[((i:Int)+(m:Int)*1).toNat]?).toArray=((xs.toList.drop i).take k).toArray:=by
 have e:(fun (m:Nat)=>xs[((i:Int)+(m:Int)*1).toNat]?)=fun m=>xs[i+m]?:=by
  funext m
  have:((i:Int)+(m:Int)*1).toNat=i+m:=by omega
  rw[this]
 rw[e];have:=pick_run xs i k;rw[List.filterMap_map] at this;have e2:((fun x=>xs[x]?)∘fun x=>i+x)=fun m=>xs[i+m]?:=rfl;rw[e2] at this;rw[this]
theorem getItem_tuple_cut {items:Array Value}{Q:Value->Shared->Prop}(ht:IsTup s.heap t items)(hs:s.heap.IsSliceOf sl vl vu .none)(pl:IsPart vl lo)(pu:IsPart vu hi)
  (hw:¬(sIx items.size 0 lo=0/\sIx items.size items.size hi=items.size))
  (h:Q (.ref s.heap.objs.size) { s with heap:=s.heap.push { cls:=.type "tuple",data:=.seq ((items.toList.drop (sIx items.size 0 lo)).take (sIx items.size items.size hi-sIx items.size 0 lo)).toArray } })
  (hsz:items.size<=sizeLine):wpAny (model prog w) A (getItem (.ref t) (.ref sl)) Q E s:=by
 have htake:sizeOk (.seq ((items.toList.drop (sIx items.size 0 lo)).take (sIx items.size items.size hi-sIx items.size 0 lo)).toArray):=by
  show ((items.toList.drop (sIx items.size 0 lo)).take (sIx items.size items.size hi-sIx items.size 0 lo)).toArray.size<=sizeLine;rw[A0z,A0q,A7z,A4b];omega
 have hj:sIx items.size items.size hi<=items.size:=sIx_le _ _ (A0k _) hi;obtain⟨os,hos,hcs,hds⟩:=id hs;have hTs:s.TypeIs (.ref sl) "slice":=⟨os,hos,hcs⟩;unfold getItem
 try with_reducible refine B0b ?_
 first|refine A0n (A1e ?_)|skip
 refine A0n (A9s ht.typeIs (by decide) ?_)
 refine A0n (wpAny_callSpecial?_slot (name:=A6x "__getitem__") ht.typeIs A7n
  (B0e A7n ht.typeIs entry_tuple_getitem ?_ (args_tuple_getitem _ _)))
 show wpAny _ _ (Builtin.Tuple.tupleItemsOf (.ref t) >>= _) _ _ s;refine A0n (tupleItemsOf_ ht ?_);refine A0n (wpAny_typeOf hTs ?_);rw[if_pos (by decide)];refine A0n (c5c hs pl pu ?_)
 have hno:¬((((sIx items.size 0 lo:Nat):Int)==0&&(1:Int)==1&&(sIx items.size items.size hi-sIx items.size 0 lo)==items.size)=true):=by
  intro q;rw[A2h,A2h] at q;have q1:((sIx items.size 0 lo:Nat):Int)=0:=eq_of_beq q.1.1;have q2:sIx items.size items.size hi-sIx items.size 0 lo=items.size:=eq_of_beq q.2;exact hw ⟨by omega,by omega⟩
 show wpAny _ _ (if (((sIx items.size 0 lo:Nat):Int)==0&&(1:Int)==1&&(sIx items.size items.size hi-sIx items.size 0 lo)==items.size)=true then _ else _) _ _ s;rw[if_neg hno,pick_gen]
 first
  | exact A0n (m:=A5e _) (A5f (A1e ⟨_,rfl,A1e h⟩) htake)
  | exact A0n (m:=A5e _) (A5f (A0n (A1e (A1e ⟨_,rfl,A1e h⟩))) htake)
  | exact A0n (A0n (m:=A5e _) (A5f (A1e (A1e ⟨_,rfl,A1e h⟩)) htake))
  | exact A0n (A0n (m:=A5e _) (A5f (A1e ⟨_,rfl,A1e h⟩) htake))
end
end HT
namespace L2
open PySem PySem.Spec PyProof.Rows
variable {i:Int}{its us:List Value}{a c j t':Nat}{s:Shared}{x y:V}{u v:Value}
abbrev TO:=St->Hp->(Option Int->Hp->Prop)->Prop
def PO (X:Cx)(e:Option Expr)(t:TO):Prop:=
 ∀(pins:List (Addr×Obj)) (s:Shared) (σ:St) (H:Hp) (Q:Option Int->Hp->Prop),Inv X pins σ H s->t σ H Q->
  wpAny (model X.prog X.w) X.A (evalPart e X.env) (fun u s'=>∃o H',Inv X pins σ H' s'/\IsPart u o/\Q o H') X.xe s
def tNoPart:TO:=fun _ H Q=>Q none H
def tPart (t:TE):TO:=fun σ H Q=>t σ H fun x H1=>∃i,x=.int i/\Q (some i) H1
section
variable {X:Cx}{e:Expr}{te:TE}{lo hi:Option Expr}{tl th:TO}{pos p2:Pos}
theorem b8x:PO X none tNoPart:=by
 intro pins s σ H Q I h;rw[evalPart_none];exact A1e ⟨none,H,I,.none,h⟩
theorem b4g (h:PE X e te):PO X (some e) (tPart te):=by
 intro pins s σ H Q I hw;rw[evalPart_some];refine thn (h pins s σ H _ I hw) fun u s1 hq9=>?_;obtain⟨x,H1,I1,r1,q1⟩:=hq9;obtain⟨i,rfl,q⟩:=q1;obtain⟨t,rfl⟩:=r1;exact⟨some i,H1,I1,.int i t,q⟩
def SlR (X:Cx)(r:V->Option Int->Option Int->Hp->VK->Prop):Prop:=
 ∀(pins:List (Addr×Obj)) (s:Shared) (σ:St) (H:Hp) (x:V) (v vl vu:Value) (lo hi:Option Int) (sl:Addr) (Q:VK),Inv X pins σ H s->a8e x v->s.heap.IsSliceOf sl vl vu .none->IsPart vl lo->IsPart vu hi->r x lo hi H Q->
  ∃T id,typeLookup (.type T) "__getitem__" = pure (some (.builtin id))/\s.TypeIs v T/\wpAny (model X.prog X.w) X.A (getItem v (.ref sl)) (EP X pins σ Q) X.xe s
def tSl (r:V->Option Int->Option Int->Hp->VK->Prop)(te:TE)(tl th:TO):TE:=fun σ H Q=>te σ H fun x H1=>tl σ H1 fun l H2=>th σ H2 fun u H3=>r x l u H3 Q
theorem b1u {r:V->Option Int->Option Int->Hp->VK->Prop}(hr:SlR X r)(he:PE X e te)(hl:PO X lo tl)(hu:PO X hi th):PE X (.Subscript e (.Slice lo hi none p2) pos) (tSl r te tl th):=by
 intro pins s σ H Q I h;refine Subscript_ (thn (he pins s σ H _ I h) fun v s1 hq9=>?_);obtain⟨x,H1,I1,r1,q1⟩:=hq9;refine wpAny_Slice (thn (hl pins s1 σ H1 _ I1 q1) fun vl s2 ⟨l,H2,I2,pl,q2⟩=>thn (hu pins s2 σ H2 _ I2 q2) fun vu s3 hq9=>?_);obtain⟨u,H3,I3,pu,q3⟩:=hq9;rw[evalPart_none];refine A1e ?_;have I4:Inv X pins σ H3 { s3 with heap:=s3.heap.push { cls:=.type "slice",data:=.fields #[vl,vu,.none] } }:=I3.kept (t':=s3.toks) fun b ob q=>Heap.get?_push_of_some _ q;obtain⟨T,id,hT,ht,hg⟩:=hr pins { s3 with heap:=s3.heap.push { cls:=.type "slice",data:=.fields #[vl,vu,.none] } } σ H3 x v vl vu l u s3.heap.objs.size Q I4 r1 (Heap.IsSliceOf.new ..) pl pu q3;show wpAny (model X.prog X.w) X.A (subscriptTail e (.Slice lo hi none p2) v (.ref s3.heap.objs.size)) (EP X pins σ Q) X.xe { s3 with heap:=s3.heap.push { cls:=.type "slice",data:=.fields #[vl,vu,.none] } };exact tail_any (ops:=[.ref s3.heap.objs.size,v]) ht hT hg (by with_unfolding_all rfl)
def c7g (xs:List V)(lo hi:Option Int):List V:=(xs.drop (HT.sIx xs.length 0 lo)).take (HT.sIx xs.length xs.length hi-HT.sIx xs.length 0 lo)
theorem c9h (xs:List V)(lo hi:Option Int):(c7g xs lo hi).length<=xs.length:=by
 unfold c7g;rw[A0q,A7z];omega
def rSlT (K:A0a):V->Option Int->Option Int->Hp->VK->Prop:=fun x lo hi H Q=>∃a xs,x=.ref a/\SqT K H a xs/\
 ¬(HT.sIx xs.length 0 lo=0/\HT.sIx xs.length xs.length hi=xs.length)/\∀p,H p=none->Q (.ref p) (upd H p (.tup (c7g xs lo hi)))
theorem sl_tup:SlR X (rSlT X.K):=by
 intro pins s σ H x v vl vu lo hi sl Q I rx hs pl pu h;obtain⟨a,xs,rfl,hx,hw,q⟩:=h;cases rx;obtain⟨its,r,ht,hz⟩:=I.tuple hx;have hlen:its.toArray.size=xs.length:=by rw[A0z];exact r.length.symm
 refine⟨"tuple",_,PyProof.Rows.slot_tuple_getitem.lookup,ht.typeIs,?_⟩;refine HT.getItem_tuple_cut ht hs pl pu (by rw[hlen];exact hw) ?_ (by rw[hlen];exact hz);rw[hlen];refine⟨.ref s.heap.objs.size,_,I.laid (t':=s.toks) (o:=.tup (c7g xs lo hi)) (fun b ob q=>Heap.get?_push_of_some _ q) (A0k _) ?_,rfl,q _ (I.hok.fresh (A0k _))⟩;exact⟨A1z (c9h xs lo hi) hz,_,(r.drop (HT.sIx xs.length 0 lo)).take (HT.sIx xs.length xs.length hi-HT.sIx xs.length 0 lo),IsTup.new _ _⟩
def rCatT (K:A0a):R2:=fun x y H Q=>∃a b xs ys,x=.ref a/\y=.ref b/\SqT K H a xs/\SqT K H b ys/\xs≠[]/\xs.length+ys.length<=sizeLine/\
 (ys=[]->Q (.ref a) H)/\(ys≠[]->∀p,H p=none->Q (.ref p) (upd H p (.tup (xs++ys))))
theorem a5q.nil_iff {xs:List V}(r:a5q xs us):us=[] ↔ xs=[]:=by
 cases r with
 | nil=>simp
 | cons _ _=>simp
theorem op_catT:OpR X (binaryOp .Add) (rCatT X.K):=by
 intro pins s σ H x y v u Q I rx ry h;obtain⟨a,b,xs,ys,rfl,rfl,ha,hb,hx,hz,q1,q2⟩:=h;cases rx;cases ry;obtain⟨its,r1,p1,_⟩:=I.tuple ha;obtain⟨its2,r2,p2,_⟩:=I.tuple hb;refine HT.cat_tup p1 p2 (fun z=>hx (r1.nil_iff.mp z)) (fun z=>⟨.ref a,H,I,rfl,q1 (r2.nil_iff.mp z)⟩) (fun z=>?_) (by rw[<- r1.length,<- r2.length];exact hz);refine⟨.ref s.heap.objs.size,_,I.laid (t':=s.toks) (o:=.tup (xs++ys)) (fun b ob q=>Heap.get?_push_of_some _ q) (A0k _) ?_,rfl,q2 (fun w=>z (r2.nil_iff.mpr w)) _ (I.hok.fresh (A0k _))⟩;exact⟨by rw[A0j];exact hz,_,r1.append r2,IsTup.new _ _⟩
end
def ixN (n:Nat)(i:Int):Option Nat:=if 0<=i then (if i<n then some i.toNat else none) else if -(n:Int)<=i then some (i+n).toNat else none
def atI {α:Type}(xs:List α)(i:Int):Option α:=(ixN xs.length i).bind fun j=>xs[j]?
theorem ixN_seq {n:Nat}(h:ixN n i=some j):seqIndex? i n=some j/\j<n/\-(n:Int)<=i/\i<n:=by
 unfold ixN at h
 by_cases h0:0<=i
 ·rw[if_pos h0] at h
  by_cases h1:i<n
  ·rw[if_pos h1] at h;have e:i.toNat=j:=A0s h;exact⟨by rw[seqIndex_of h0 h1,e],by omega,by omega,h1⟩
  ·rw[if_neg h1] at h;cases h
 ·rw[if_neg h0] at h
  by_cases h1:-(n:Int)<=i
  ·rw[if_pos h1] at h;have e:(i+n).toNat=j:=A0s h;exact⟨by rw[seqIndex_neg (by omega) h1,e],by omega,h1,by omega⟩
  ·rw[if_neg h1] at h;cases h
theorem atI_get {α:Type}{xs:List α}{v:α}(h:atI xs i=some v):∃j,seqIndex? i xs.length=some j/\xs[j]? = some v/\j<xs.length/\-(xs.length:Int)<=i/\i<xs.length:=by
 unfold atI at h
 cases e:ixN xs.length i with
 | none=>rw[e] at h;cases h
 | some j=>
  rw[e] at h;obtain⟨h1,h2,h3,h4⟩:=ixN_seq e;exact⟨j,h1,h,h2,h3,h4⟩
theorem b9u {α:Type}{xs:List α}{v:α}(h:xs[j]? = some v):atI xs (j:Int)=some v:=by
 have hj:j<xs.length:=(List.getElem?_eq_some_iff.mp h).1
 have e:ixN xs.length (j:Int)=some j:=by
  unfold ixN;rw[if_pos (by omega),if_pos (by omega)];simp
 unfold atI;rw[e];exact h
theorem atI_last {α:Type}(xs:List α)(v:α):atI (xs++[v]) (-1)=some v:=by
 have hl:(xs++[v]).length=xs.length+1:=by simp
 have e:ixN (xs++[v]).length (-1)=some xs.length:=by
  unfold ixN;rw[hl,if_neg (by decide),if_pos (by omega)]
  congr 1
  omega
 unfold atI;rw[e];show (xs++[v])[xs.length]? = some v;simp
def PlainIx (b:Expr):Prop:=∀o i,subscripted b false o i=operate [o,i] (getItem o i)
def IxR (X:Cx)(r:R2):Prop:=
 ∀(value slice:Expr) (pins:List (Addr×Obj)) (s:Shared) (σ:St) (H:Hp) (x y:V) (v u:Value) (Q:VK),Inv X pins σ H s->a8e x v->a8e y u->r x y H Q->
  subscripted slice false v u=operate [v,u] (getItem v u)->wpAny (model X.prog X.w) X.A (subscriptTail value slice v u) (EP X pins σ Q) X.xe s
def MtR (X:Cx)(id:String)(r:V->List V->Hp->VK->Prop):Prop:=
 ∀(pins:List (Addr×Obj)) (s:Shared) (σ:St) (H:Hp) (x:V) (xs:List V) (v:Value) (us:List Value) (Q:VK),Inv X pins σ H s->a8e x v->a5q xs us->r x xs H Q->
  wpAny (model X.prog X.w) X.A (call (.builtin id) (v::us)) (EP X pins σ Q) X.xe s
section
variable {X:Cx}{a b:Expr}{ta tb:TE}{pos:Pos}
theorem a0u {r:R2}(hr:IxR X r)(ha:PE X a ta)(hb:PE X b tb)(hs:PlainIx b):PE X (.Subscript a b pos) (tOp r ta tb):=by
 intro pins s σ H Q I h;exact Subscript_ (binT ha hb I h fun v u s2 x y H2 I2 rx ry q=>hr a b pins s2 σ H2 x y v u Q I2 rx ry q (hs _ _))
def rIxL (K:A0a):R2:=fun x y H Q=>∃p xs i v,x=.ref p/\y=.int i/\SqL K H p xs/\atI xs i=some v/\Q v H
def rIxT (K:A0a):R2:=fun x y H Q=>∃p xs i v,x=.ref p/\y=.int i/\SqT K H p xs/\atI xs i=some v/\Q v H
theorem b3u:IxR X (rIxL X.K):=by
 intro value slice pins s σ H x y v u Q I rx ry h hs;obtain⟨p,xs,i,z,rfl,rfl,hq,he,q⟩:=h;cases rx;obtain⟨t,rfl⟩:=ry;obtain⟨its,r,pl,hz⟩:=I.list hq;obtain⟨j,h1,h2,h3,h4,h5⟩:=atI_get he;obtain⟨w,ew,rw'⟩:=r.get h2;have hl:=r.length;have hn:=line63;have fin:EP X pins σ Q w s:=⟨z,H,I,rw',q⟩
 by_cases h0:0<=i
 ·have hj:i.toNat=j:=by
   rw[seqIndex_of h0 h5] at h1;exact A0s h1
  exact item_listR pl.isList h0 (by omega) (by rw[hj];simpa using ew) fin hs
 ·have hj:(i+(its.toArray.size:Int)).toNat=j:=by
   rw[seqIndex_neg (by omega) h4] at h1;rw[A0z,<- hl];exact A0s h1
  exact subscriptTail_builtinR (x:=w) pl.isList.typeIs slot_list_getitem.lookup
   (wpAny_getItem_list_neg (Q:=fun r s'=>r=w/\EP X pins σ Q r s') pl.isList (by omega) (by rw[A0z]<;>omega) (by omega) (by rw[hj];simpa using ew) ⟨rfl,fin⟩) hs
theorem a0p:IxR X (rIxT X.K):=by
 intro value slice pins s σ H x y v u Q I rx ry h hs;obtain⟨p,xs,i,z,rfl,rfl,hq,he,q⟩:=h;cases rx;obtain⟨t,rfl⟩:=ry;obtain⟨its,r,pl,hz⟩:=I.tuple hq;obtain⟨j,h1,h2,h3,h4,h5⟩:=atI_get he;obtain⟨w,ew,rw'⟩:=r.get h2;have hl:=r.length;have hn:=line63;have fin:EP X pins σ Q w s:=⟨z,H,I,rw',q⟩
 exact subscriptTail_builtinR (x:=w) pl.typeIs slot_tuple_getitem.lookup
  (getItem_tuple (j:=j) (Q:=fun r s'=>r=w/\EP X pins σ Q r s') pl (by omega) (by omega) (by rw[A0z,<- hl];exact h1) (by simpa using ew) ⟨rfl,fin⟩) hs
theorem slice_bounds (lo hi:Option Int)(n:Nat):(sliceBounds lo hi none n).1=((HT.sIx n 0 lo:Nat):Int)/\(sliceBounds lo hi none n).2.1=((HT.sIx n n hi:Nat):Int)/\(sliceBounds lo hi none n).2.2=1:=by
 refine⟨?_,?_,rfl⟩
 ·cases lo with
  | none=>simp[sliceBounds,HT.sIx]
  | some i=>
   simp only[sliceBounds,HT.sIx,B0f,show (1:Int)>0 by decide,if_true]
   by_cases h:i<0
   ·simp only[h,if_true]<;>omega
   ·simp only[h,if_false]<;>omega
 ·cases hi with
  | none=>simp[sliceBounds,HT.sIx]
  | some i=>
   simp only[sliceBounds,HT.sIx,B0f,show (1:Int)>0 by decide,if_true]
   by_cases h:i<0
   ·simp only[h,if_true]<;>omega
   ·simp only[h,if_false]<;>omega
theorem d4x (its:List Value)(lo hi:Option Int):slicePick its.toArray lo hi none=((its.drop (HT.sIx its.length 0 lo)).take (HT.sIx its.length its.length hi-HT.sIx its.length 0 lo)).toArray:=by
 obtain⟨h1,h2,h3⟩:=slice_bounds lo hi its.toArray.size;unfold slicePick;rw[h1,h2,h3];simp only[sliceRange_one,pick_run,A0z]<;>rfl
def rSlL (K:A0a):V->Option Int->Option Int->Hp->VK->Prop:=fun x lo hi H Q=>∃a xs,x=.ref a/\SqL K H a xs/\∀p,H p=none->Q (.ref p) (upd H p (.lst (c7g xs lo hi)))
theorem c3m:SlR X (rSlL X.K):=by
 intro pins s σ H x v vl vu lo hi sl Q I rx hs pl pu h;obtain⟨a,xs,rfl,hx,q⟩:=h;cases rx;obtain⟨its,r,ht,hz⟩:=I.list hx;have hlen:=r.length;refine⟨"list",_,slot_list_getitem.lookup,ht.isList.typeIs,?_⟩;refine wpAny_getItem_list_slice ht.isList hs pl pu .none (by simp) ?_ (by rw[A0z]<;>omega)
 rw[d4x,<- hlen];refine⟨.ref s.heap.objs.size,_,I.laid (t':=s.toks) (o:=.lst (c7g xs lo hi)) (fun b ob q=>Heap.get?_push_of_some _ q) (A0k _) ?_,rfl,q _ (I.hok.fresh (A0k _))⟩;exact⟨A1z (c9h xs lo hi) hz,_,0,(r.drop (HT.sIx xs.length 0 lo)).take (HT.sIx xs.length xs.length hi-HT.sIx xs.length 0 lo),Heap.get?_push_size _ rfl⟩
def c5p:V->Bool
 | .non=>true
 | .bl _=>true
 | .int _=>true
 | .str _=>true
 | _=>false
def eqV:V->V->Bool
 | .non,.non=>true
 | .bl a,.bl b=>a==b
 | .bl a,.int b=>(if a then 1 else 0)==b
 | .int a,.bl b=>a==(if b then 1 else 0)
 | .int a,.int b=>a==b
 | .str a,.str b=>a==b
 | _,_=>false
theorem eqAt_V {A:Around}(ry:a8e y u)(rx:a8e x v)(fy:c5p y=true)(fx:c5p x=true):SeqAt.EqAt A s u v (eqV y x):=by
 cases y with
 | non=>
  cases ry
  cases x with
  | non=>cases rx;exact SeqAt.EqAt.same _
  | bl b=>cases rx;exact SeqAt.EqAt.none_bool b
  | int b=>obtain⟨t,rfl⟩:=rx;exact SeqAt.EqAt.none_int b t
  | str b=>obtain⟨t,rfl⟩:=rx;exact SeqAt.EqAt.none_str b t
  | _=>exact absurd (show false=true from fx) A1a
 | bl a=>
  cases ry
  cases x with
  | non=>cases rx;exact SeqAt.EqAt.bool_none a
  | bl b=>cases rx;exact SeqAt.EqAt.bool_bool a b
  | int b=>obtain⟨t,rfl⟩:=rx;exact SeqAt.EqAt.bool_int a b t
  | str b=>obtain⟨t,rfl⟩:=rx;exact SeqAt.EqAt.bool_str a b t
  | _=>exact absurd (show false=true from fx) A1a
 | int a=>
  obtain⟨t',rfl⟩:=ry
  cases x with
  | non=>cases rx;exact SeqAt.EqAt.int_none a t'
  | bl b=>cases rx;exact SeqAt.EqAt.int_bool a t' b
  | int b=>obtain⟨t,rfl⟩:=rx;exact SeqAt.EqAt.int_int a t' b t
  | str b=>obtain⟨t,rfl⟩:=rx;exact B1j a t' b t
  | _=>exact absurd (show false=true from fx) A1a
 | str a=>
  obtain⟨t',rfl⟩:=ry
  cases x with
  | non=>cases rx;exact SeqAt.EqAt.str_none a t'
  | bl b=>cases rx;exact SeqAt.EqAt.str_bool a t' b
  | int b=>obtain⟨t,rfl⟩:=rx;exact B1k a t' b t
  | str b=>obtain⟨t,rfl⟩:=rx;exact SeqAt.EqAt.str_str a t' b t
  | _=>exact absurd (show false=true from fx) A1a
 | _=>exact absurd (show false=true from fy) A1a
def eqU (x:V)(u:Value):Bool:=match u with
 | .none=>eqV .non x
 | .bool b=>eqV (.bl b) x
 | .int i _=>eqV (.int i) x
 | .str z _=>eqV (.str z) x
 | _=>false
theorem eqU_of (r:a8e y u)(f:c5p y=true):eqU x u=eqV y x:=by
 cases y with
 | non=>cases r;rfl
 | bl b=>cases r;rfl
 | int i=>obtain⟨t,rfl⟩:=r;rfl
 | str z=>obtain⟨t,rfl⟩:=r;rfl
 | _=>exact absurd (show false=true from f) A1a
theorem any_eqU {x:V}:∀{xs:List V} {us:List Value},a5q xs us->xs.all c5p=true->us.any (eqU x)=xs.any fun y=>eqV y x
 | _,_,.nil,_=>rfl
 | y::xs,u::us,.cons r t,f=>by
  rw[A5m,A2h] at f;rw[B1n,B1n,eqU_of r f.1,any_eqU t f.2]
theorem d6n {A:Around}{s:Shared}{x:V}{v:Value}(rx:a8e x v)(fx:c5p x=true):∀{xs:List V} {us:List Value},a5q xs us->xs.all c5p=true->∀u∈us,SeqAt.EqAt A s u v (eqU x u)
 | _,_,.nil,_=>fun u hu=>by cases hu
 | y::xs,u::us,.cons r t,f=>fun u' hu=>by
  rw[A5m,A2h] at f
  rcases List.mem_cons.mp hu with rfl|hu
  ·rw[eqU_of r f.1];exact eqAt_V r rx f.1 fx
  ·exact d6n rx fx t f.2 u' hu
def inV (x:V)(xs:List V):Bool:=xs.any fun y=>eqV y x
def rIn (K:A0a)(neg:Bool):R2:=fun x y H Q=>∃p xs,y=.ref p/\(SqL K H p xs\/SqT K H p xs)/\c5p x=true/\xs.all c5p=true/\Q (.bl (if neg then !inV x xs else inV x xs)) H
theorem op_in_seq:OpR X (compareOp .In) (rIn X.K false):=by
 intro pins s σ H x y v u Q I rx ry h;obtain⟨p,xs,rfl,hq,fx,fs,q⟩:=h;cases ry
 rcases hq with hq|hq
 ·obtain⟨its,r,pl,hz⟩:=I.list hq;refine SeqAt.in_listAt (eqU x) pl.isList (fun w hw=>d6n rx fx r fs w (by simpa using hw)) ⟨.bl _,H,I,rfl,?_⟩;rw[show its.toArray.any (eqU x)=its.any (eqU x) by simp,any_eqU r fs];exact q
 ·obtain⟨its,r,pl,hz⟩:=I.tuple hq;refine SeqAt.in_tupleAt (eqU x) pl (fun w hw=>d6n rx fx r fs w (by simpa using hw)) ⟨.bl _,H,I,rfl,?_⟩;rw[show its.toArray.any (eqU x)=its.any (eqU x) by simp,any_eqU r fs];exact q
theorem call_len_seq:b2z X (.builtin "len") (fun xs H Q=>∃p ys,xs=[.ref p]/\(SqL X.K H p ys\/SqT X.K H p ys)/\Q (.int ys.length) H):=by
 intro pins s σ H xs us Q I r h;obtain⟨p,ys,rfl,hq,q⟩:=h;obtain⟨u,rfl,rx⟩:=vals1 r;cases rx;have hn:=line63
 rcases hq with hq|hq
 ·obtain⟨its,r',pl,hz⟩:=I.list hq;have hlen:=r'.length;exact Calls.call_len_list pl.isList (by simp only[A0z]<;>omega) ⟨.int ys.length,H,I.tok _,⟨s.toks+1,by rw[A0z,hlen]⟩,q⟩
 ·obtain⟨its,r',pl,hz⟩:=I.tuple hq;have hlen:=r'.length;exact len_tuple pl (by simp only[A0z]<;>omega) ⟨.int ys.length,H,I.tok _,⟨s.toks+1,by rw[A0z,hlen]⟩,q⟩
theorem call_len_str:b2z X (.builtin "len") (fun xs H Q=>∃z,xs=[.str z]/\z.length<=sizeLine/\Q (.int z.length) H):=by
 intro pins s σ H xs us Q I r h;obtain⟨z,rfl,hz,q⟩:=h;obtain⟨u,rfl,t,rfl⟩:=vals1 r;have hn:=line63;exact len_str (by omega) ⟨.int z.length,H,I.tok _,⟨_,rfl⟩,q⟩
theorem b2z.or {f:Value}{r r':List V->Hp->VK->Prop}(h:b2z X f r)(h':b2z X f r'):b2z X f (fun xs H Q=>r xs H Q\/r' xs H Q):=by
 intro pins s σ H xs us Q I rs q
 rcases q with q|q
 ·exact h pins s σ H xs us Q I rs q
 ·exact h' pins s σ H xs us Q I rs q
theorem call_list_of:b2z X (.type "list") (fun xs H Q=>∃p ys,xs=[.ref p]/\(SqL X.K H p ys\/SqT X.K H p ys)/\∀l,H l=none->Q (.ref l) (upd H l (.lst ys))):=by
 intro pins s σ H xs us Q I r h;obtain⟨p,ys,rfl,hq,q⟩:=h;obtain⟨u,rfl,rx⟩:=vals1 r;cases rx
 have fin:∀(its:List Value),a5q ys its->ys.length<=sizeLine->∀(h':Heap) (c':Nat),(∀b o',s.heap.get? b=some o'->h'.get? b=some o')->
   h'.get? s.heap.objs.size=some { cls:=.type "list",dict:=none,data:=.seq its.toArray c',slots:=#[] }->EP X pins σ Q (.ref s.heap.objs.size) { s with heap:=h' }:=fun its r' hz h' c' kp e=>
  ⟨.ref s.heap.objs.size,_,I.laid (t':=s.toks) kp (A0k _) (show a8s X.prog X.w _ h' _ (.lst ys) from ⟨hz,its,c',r',e⟩),rfl,q _ (I.hok.fresh (A0k _))⟩
 rcases hq with hq|hq
 ·obtain⟨its,r',pl,hz⟩:=I.list hq;have hlen:=r'.length;obtain⟨o,ho,hc,n,hd⟩:=pl.isList;exact call_list_seq p (.inl rfl) ho hc hd (fun h' c' kp e=>fin its r' hz h' c' kp e) (by simp only[A0z]<;>omega)
 ·obtain⟨its,r',pl,hz⟩:=I.tuple hq;have hlen:=r'.length;obtain⟨o,ho,hc,n,hd⟩:=pl;exact call_list_seq p (.inr rfl) ho hc hd (fun h' c' kp e=>fin its r' hz h' c' kp e) (by simp only[A0z]<;>omega)
theorem d7c:b2z X (.type "tuple") (fun xs H Q=>∃p ys,xs=[.ref p]/\((SqL X.K H p ys/\∀l,H l=none->Q (.ref l) (upd H l (.tup ys)))\/(SqT X.K H p ys/\Q (.ref p) H))):=by
 intro pins s σ H xs us Q I r h;obtain⟨p,ys,rfl,h⟩:=h;obtain⟨u,rfl,rx⟩:=vals1 r;cases rx
 rcases h with ⟨hq,q⟩|⟨hq,q⟩
 ·obtain⟨its,r',pl,hz⟩:=I.list hq;have hlen:=r'.length;refine call_tuple_list pl.isList (fun h' kp=>?_) (by simp only[A0z]<;>omega)
  have I1:Inv X pins σ H { s with heap:=h' }:=I.kept (t':=s.toks) kp
  have I2:Inv X pins σ (upd H h'.objs.size (.tup ys)) { s with heap:=h'.push { cls:=.type "tuple",data:=.seq its.toArray } }:=
   I1.laid (t':=s.toks) (fun b o e=>Heap.get?_push_of_some _ e) (A0k _) (show a8s X.prog X.w _ _ _ (.tup ys) from ⟨hz,its,r',IsTup.new _ _⟩)
  exact⟨.ref h'.objs.size,_,I2,rfl,q _ (I1.hok.fresh (A0k _))⟩
 ·obtain⟨its,r',pl,hz⟩:=I.tuple hq;exact call_tuple_same pl ⟨.ref p,H,I,rfl,q⟩
def tyV (K:A0a)(T:String)(x:V)(H:Hp):Prop:=match x with
 | .str _=>T= "str"
 | .int _=>T= "int"
 | .ref p=>(T= "list"/\∃xs,SqL K H p xs)\/(T= "tuple"/\∃o,K.lookup p=some o/\o.cls=.type "tuple"/\o.dict=none)\/
   (T= "dict"/\((∃kvs,H p=some (.dK kvs))\/∃kvs,H p=some (.dT kvs)))\/(T= "set"/\∃S n,H p=some (.set S n))
 | _=>False
theorem tyV_is {pins:List (Addr×Obj)}{σ:St}{H:Hp}{T:String}(I:Inv X pins σ H s)(r:a8e x v)(ty:tyV X.K T x H) :
  s.TypeIs v T/\∀a,v=.ref a->∃ob,s.heap.get? a=some ob/\ob.dict=none:=by
 cases x with
 | str z=>
  obtain⟨t,rfl⟩:=r;cases (show T= "str" from ty);exact⟨typeIs_str s z t,fun _ e=>nomatch e⟩
 | int i=>
  obtain⟨t,rfl⟩:=r;cases (show T= "int" from ty);exact⟨typeIs_int s i t,fun _ e=>nomatch e⟩
 | ref p=>
  cases r
  rcases ty with ⟨rfl,xs,hq⟩|⟨rfl,o,hk,hc,hd⟩|⟨rfl,hk⟩|⟨rfl,S,n,hk⟩
  ·obtain⟨its,_,pl,_⟩:=I.list hq;refine⟨pl.isList.typeIs,fun a e=>?_⟩;cases e;obtain⟨o,n,e,c,hd,_⟩:=pl;exact⟨o,e,hd⟩
  ·refine⟨⟨o,I.kIn p o hk,hc⟩,fun a e=>?_⟩;cases e;exact⟨o,I.kIn _ o hk,hd⟩
  ·have z:∃o,s.heap.get? p=some o/\o.ExactDict:=by
    rcases hk with ⟨kvs,hk⟩|⟨kvs,hk⟩
    ·obtain⟨_,_,_,_,o,_,_,e,ex,_⟩:=I.hok p _ hk;exact⟨o,e,ex⟩
    ·obtain⟨_,_,_,_,o,_,_,e,ex,_⟩:=I.hok p _ hk;exact⟨o,e,ex⟩
   obtain⟨o,e,ex⟩:=z;refine⟨⟨o,e,ex.1⟩,fun a e2=>?_⟩;cases e2;exact⟨o,e,ex.2.1⟩
  ·obtain⟨o,_,_,_,e,ex,_⟩:=I.hok p _ hk;refine⟨⟨o,e,ex.1⟩,fun a e2=>?_⟩;cases e2;exact⟨o,e,ex.2.1⟩
 | _=>exact A4c ty
def tBM0 (K:A0a)(T:String)(r:V->List V->Hp->VK->Prop)(to:TE):TE:=fun σ H Q=>to σ H fun x H1=>tyV K T x H1/\r x [] H1 Q
def tBM (K:A0a)(T:String)(r:V->List V->Hp->VK->Prop)(to:TE)(t:TA):TE:=fun σ H Q=>to σ H fun x H1=>tyV K T x H1/\t σ H1 fun xs H2=>r x xs H2 Q
variable {o e:Expr}{es:List Expr}{to:TE}{t:TA}{name:Str}{apos cpos:Pos}{T id:String}{r:V->List V->Hp->VK->Prop}
theorem pe_bm0 (pa:PlainAttrs T)(slot:Slot T name id)(hty:typeOf (.builtin id)=pure (.type "method_descriptor"))(hm:MtR X id r)(ho:PE X o to)
  (hbase:attributeBase o name X.env (eval o X.env)=eval o X.env:=by rfl) (hline:(apos.endLine==cpos.line)=true:=by rfl):PE X (.Call (.Attribute o name apos) [] [] cpos) (tBM0 X.K T r to):=by
 intro pins s σ H Q I h;refine wpAny_Call_method0_late hbase hline (thn (ho pins s σ H _ I h) fun v s1 hq9=>?_);obtain⟨x,H1,I1,r1,ty,q1⟩:=hq9;obtain⟨h1,h2⟩:=tyV_is I1 r1 ty;exact⟨T,id,pa,slot,hty,h1,h2,A7j rfl (PySem.evalArgs_none (hm pins s1 σ H1 x [] v [] Q I1 r1 .nil q1))⟩
theorem b8c (pa:PlainAttrs T)(slot:Slot T name id)(hty:typeOf (.builtin id)=pure (.type "method_descriptor"))(hm:MtR X id r)(ho:PE X o to)(ha:PA X (e::es) t)
  (hbase:attributeBase o name X.env (eval o X.env)=eval o X.env:=by rfl)
  (hfew:((backTo cpos (starEach (e::es) X.env)).all (fun x=>!x.1)&&(backToKw cpos (keywordEach [] X.env)).all (fun x=>x.1.isSome)
   && decide ((e::es).length+([]:List Keyword).length+(if ([]:List Keyword).isEmpty then 0 else 1)<30))=true:=by rfl)
  (hline:(apos.endLine==cpos.line)=true:=by rfl) (hs:starEach (e::es) X.env=(false,eval e X.env)::starEach es X.env:=by rfl) (hplain:(backTo cpos (starEach es X.env)).any (·.1)=false:=by rfl) :
  PE X (.Call (.Attribute o name apos) (e::es) [] cpos) (tBM X.K T r to t):=by
 intro pins s σ H Q I h;refine wpAny_Call_method_late hbase hfew hline rfl (thn (ho pins s σ H _ I h) fun v s1 hq9=>?_);obtain⟨x,H1,I1,r1,ty,q1⟩:=hq9;obtain⟨h1,h2⟩:=tyV_is I1 r1 ty;refine⟨T,id,pa,slot,hty,h1,h2,?_⟩;have hA:=ha cpos pins s1 σ H1 _ I1 q1;rw[hs] at hA ⊢;refine A7j (by show (false||(backTo cpos (starEach es X.env)).any (·.1))=false;rw[hplain]<;>rfl) (B1b ?_)
 exact thn hA fun us s2 ⟨vs,H2,I2,r2,q2⟩=>hm pins s2 σ H2 x vs v us Q I2 r1 r2 q2
end
def MtM (X:Cx)(id:String)(r:V->List V->Hp->VK->Prop):Prop:=
 ∀(pins:List (Addr×Obj)) (s:Shared) (σ:St) (H:Hp) (x:V) (xs:List V) (v:Value) (us:List Value) (Q:VK),Inv X pins σ H s->a8e x v->a5q xs us->r x xs H Q->
  wpAny (model X.prog X.w) X.A (call (.builtin id) (v::us)) (EP X pins σ Q) X.xe s
theorem a5q.one (h:a5q [x] us):∃u,us=[u]/\a8e x u:=by
 cases h with
 | cons r h=>
  cases h;exact⟨_,rfl,r⟩
theorem a5q.two (h:a5q [x,y] us):∃u v,us=[u,v]/\a8e x u/\a8e y v:=by
 cases h with
 | cons r h=>
  cases h with
  | cons q h=>
   cases h;exact⟨_,_,rfl,r,q⟩
section
variable {X:Cx}{pins:List (Addr×Obj)}{σ:St}{H:Hp}{s:Shared}{l b:Addr}{xs ys zs:List V}
theorem Inv.lset {its':List Value}{n:Nat}{f:Array Value->Array Value}(I:Inv X pins σ H s)(hH:H l=some (.lst xs))
  (e:s.heap.get? l=some { cls:=.type "list",data:=.seq its.toArray n }) (hf:f its.toArray=its'.toArray) (hv:a5q ys its') (hz:ys.length<=sizeLine) :
  Inv X pins σ (upd H l (.lst ys)) { s with heap:=s.heap.update l (Obj.mapSeq f),toks:=t' }:=by
 have q:=PySem.IsL.update e f;rw[hf] at q;refine I.write (x:=l) (e:=l) (by rw[hH];exact trivial) (.inl rfl) (fun b' u hb hu=>(Heap.get?_update_other s.heap (Obj.mapSeq f) (A4m hb)).trans hu) ⟨_,q⟩ ?_;exact⟨hz,its',_,hv,q⟩
theorem Inv.lnew (I:Inv X pins σ H s)(hv:a5q ys its)(hz:ys.length<=sizeLine) :
  Inv X pins σ (upd H s.heap.objs.size (.lst ys)) { s with heap:=s.heap.push { cls:=.type "list",data:=.seq its.toArray },toks:=t' }:=
 I.laid (fun _ _ q=>Heap.get?_push_of_some _ q) (A0k _) ⟨hz,its,0,hv,Heap.get?_push_size _ rfl⟩
theorem Inv.fresh (I:Inv X pins σ H s):H s.heap.objs.size=none:=I.hok.fresh (A0k _)
theorem Inv.lstM (I:Inv X pins σ H s)(hH:H l=some (.lst xs)):xs.length<=sizeLine/\∃(its:List Value) (n:Nat),a5q xs its/\xs.length=its.length/\s.heap.get? l=some { cls:=.type "list",data:=.seq its.toArray n }:=by
 obtain⟨z,its,n,r,e⟩:=I.hok l _ hH;exact⟨z,its,n,r,r.length,e⟩
theorem d6c {n:Nat}(h:n<=sizeLine):A6y n=false:=by
 unfold A6y;exact decide_eq_false (by omega)
end
section
variable {X:Cx}
def rAppend:V->List V->Hp->VK->Prop:=fun x vs H Q=>∃l xs y,x=.ref l/\vs=[y]/\H l=some (.lst xs)/\xs.length<sizeLine/\Q .non (upd H l (.lst (xs++[y])))
theorem a4d:MtM X "list.append" rAppend:=by
 intro pins s σ H x vs v us Q I rx rv h;obtain⟨l,xs,y,rfl,rfl,hH,hz,q⟩:=h;cases rx;obtain⟨u,rfl,ru⟩:=rv.one;obtain⟨z,its,n,r,hl,e⟩:=I.lstM hH;refine call_meets F.slot_list_append ⟨_,e,rfl⟩ F.entry_list_append (F.args_list_append_2 _ _) (PySem.list_append l its.toArray n u (by rw[A0z];omega)) ⟨e,?_⟩;refine⟨.non,_,I.lset (its':=its++[u]) hH e (by simp) (r.append (.cons ru .nil)) ?_,rfl,q⟩;rw[A0j,A3e];omega
def rExtend:V->List V->Hp->VK->Prop:=fun x vs H Q=>∃l b xs zs,x=.ref l/\vs=[.ref b]/\H l=some (.lst xs)/\H b=some (.lst zs)/\xs.length+zs.length<=sizeLine/\Q .non (upd H l (.lst (xs++zs)))
theorem c8p:MtM X "list.extend" rExtend:=by
 intro pins s σ H x vs v us Q I rx rv h;obtain⟨l,b,xs,zs,rfl,rfl,hH,hB,hz,q⟩:=h;cases rx;obtain⟨u,rfl,ru⟩:=rv.one;cases ru;obtain⟨z,its,n,r,hl,e⟩:=I.lstM hH;obtain⟨z2,its2,n2,r2,hl2,e2⟩:=I.lstM hB;have hsz:its.toArray.size+its2.toArray.size<=sizeLine:=by rw[A0z,A0z];omega
 have hlong:¬(!its.toArray.isEmpty&&A6y (its.toArray.size+its2.toArray.size))=true:=by
  rw[d6c hsz,A2v];exact A1a
 refine call_meets F.slot_list_extend ⟨_,e,rfl⟩ F.entry_list_extend (F.args_list_extend_2 _ _)
  (AutoSeq1.list_extend_list_list_0 l its.toArray n b its2.toArray n2 hlong (by rw[A0z];omega) (by omega)) ⟨e,e2,?_⟩
 refine⟨.non,_,I.lset (its':=its++its2) hH e (by simp) (r.append r2) ?_,rfl,q⟩;rw[A0j];omega
def rCat:R2:=fun x y H Q=>∃l b xs zs,x=.ref l/\y=.ref b/\H l=some (.lst xs)/\H b=some (.lst zs)/\xs.length+zs.length<=sizeLine/\∀p,H p=none->Q (.ref p) (upd H p (.lst (xs++zs)))
theorem d3g:OpR X (binaryOp .Add) rCat:=by
 intro pins s σ H x y v u Q I rx ry h;obtain⟨l,b,xs,zs,rfl,rfl,hH,hB,hz,q⟩:=h;cases rx;cases ry;obtain⟨z,its,n,r,hl,e⟩:=I.lstM hH;obtain⟨z2,its2,n2,r2,hl2,e2⟩:=I.lstM hB;refine PySem.P.add_list e e2 ?_ (by rw[A0z,A0z];omega);have ea:its.toArray++its2.toArray=(its++its2).toArray:=by simp
 rw[ea];exact⟨.ref _,_,I.lnew (t':=s.toks) (r.append r2) (by rw[A0j];omega),rfl,q _ I.fresh⟩
end
section
variable {prog:Program}{w:World}{A:Around}{E:Value->Shared->Prop}{s:Shared}
theorem bounds_run {n:Nat}(hac:a<=c)(hc:c<=n):sliceBounds (some (a:Int)) (some (c:Int)) none n=((a:Int),(c:Int),1):=by
 simp only[sliceBounds,B0f];have h1:¬((a:Int)<0):=by omega
 have h2:¬((c:Int)<0):=by omega
 simp only[h1,h2,if_false,show (1:Int)>0 by decide,if_true]
 congr 1
 ·omega
 ·congr 1;omega
set_option maxRecDepth 100000 in
theorem setItem_slice {l b sl:Addr}{items new:Array Value}{n n2:Nat}{vl vu:Value}{Q:Unit->Shared->Prop}
  (e:s.heap.get? l=some { cls:=.type "list",data:=.seq items n }) (e2:s.heap.get? b=some { cls:=.type "list",data:=.seq new n2 }) (hne:l≠b)
  (hs:s.heap.IsSliceOf sl vl vu .none) (pl:IsPart vl (some (a:Int))) (pu:IsPart vu (some (c:Int))) (hac:a<=c) (hc:c<=items.size)
  (hsz:items.size+new.size<=sizeLine) (h:Q () { s with heap:=s.heap.update l (Obj.mapSeq fun xs=>xs.extract 0 a++new++xs.extract c xs.size) }) :
  wpAny (model prog w) A (setItem (.ref l) (.ref sl) (.ref b)) Q E s:=by
 have hl:s.heap.IsList l items:=B2g e;have hb:s.heap.IsList b new:=B2g e2;obtain⟨os,hos,hcs,hds⟩:=id hs;have hTs:s.TypeIs (.ref sl) "slice":=⟨os,hos,hcs⟩;have hstep:¬((rawPart none==rawInt 0)=true):=A1a
 have hsame:A9t (.ref l) (.ref b)=false:=by
  unfold A9t;exact beq_eq_false_iff_ne.mpr hne
 have hmax:(max (a:Int) (c:Int)).toNat=c:=by omega
 have hz':((fun xs:Array Value=>xs.extract 0 a++new++xs.extract c xs.size) items).size<=sizeLine+1:=by
  simp only[Array.size_append,Array.size_extract];omega
 unfold setItem
 try with_reducible refine B0b ?_
 first|refine A0n (A1e ?_)|skip
 refine A0n (A9s hl.typeIs (by decide) ?_)
 refine A0n (wpAny_callSpecial?_slot (name:=A6x "__setitem__") hl.typeIs slot_list_setitem
  (B0e slot_list_setitem hl.typeIs entry_list_setitem ?_ (args_list_setitem _ _ _)))
 show wpAny _ _ (Builtin.List.listSubscript? (.ref sl) >>= _) _ _ s;refine A0n ?_;unfold Builtin.List.listSubscript?;refine A0n (wpAny_specialOf hTs slice_no_index ?_);simp only[Option.isNone_none,if_true];refine A1e ?_;show wpAny _ _ (typeOf (.ref sl) >>= _) _ _ s;refine A0n (wpAny_typeOf hTs ?_)
 first
  | rw[if_neg (by decide)]
  | refine A9a (by decide) ?_
 rw[listSliceParts_eq];refine A0n (A0n (A8p hos hds (x:=.none) rfl (A0n (B1c .none ?_))));rw[if_neg hstep];refine A0n (A8p hos hds (x:=vl) rfl (A0n (B1c pl ?_)));refine A0n (A8p hos hds (x:=vu) rfl (A0n (B1c pu (A1e ?_))))
 first
  | simp only[hsame,A4x,if_false]
  | refine A9a hsame ?_
  | (dsimp only
     rw[if_neg (by rw[hsame];exact A1a)])
 refine A0n (m:=A9j (.ref b) "must assign iterable to extended slice") ?_;unfold A9j;refine A0n (wpAny_typeOf hb.typeIs ?_)
 first
  | refine PySem.W.KFB.if_so (by decide) ?_
  | rw[if_pos (by decide)]
  | simp only[beq_self_eq_true,Bool.true_or,if_true]
 unfold Builtin.List.listItems;refine A0n (wpAny_seqItems e2 rfl (A1e ?_));refine A0n (A0n (wpAny_seqItems e rfl (A1e ?_)));refine A0n (wpAny_of_eq ((sliceIndices_raw (some (a:Int)) (some (c:Int)) none items.size (by simp)).trans (congrArg (pure:Int×Int×Int->Sem (Int×Int×Int)) (bounds_run hac hc))) ?_);show wpAny _ _ (if ((1:Int)==1)=true then _ else _) _ _ s;rw[if_pos (by decide)];refine A0n (wpAny_rule ?_)
 first
  | simp only[d6c hsz,A4x,if_false]
  | refine A9a (d6c hsz) ?_
 first|refine A0n (A1e ?_)|skip
 show wpAny _ _ (updateSeq l (fun xs=>xs.extract 0 ((a:Int)).toNat++new++xs.extract (max (a:Int) (c:Int)).toNat xs.size) >>= _) _ _ s;rw[hmax,A3t];refine A0n (wpAny_updateSeq (hz:=A1z (B0g _ _) hsz) (_hz':=hz') e rfl ?_);refine A0n (wpAny_letGo ?_)
 first
  | exact A0n (A1e (A1e ⟨.none,rfl,A1e h⟩))
  | exact A1e ⟨.none,rfl,A1e h⟩
end
section
variable {X:Cx}
end
end L2
namespace Att
open PySem PySem.W PySem.Calls PyProof.Rows
variable {h:Heap}{l:OpenLaw}{P:Params}
theorem c6v :∀(ns:List Int) (vs:List Value),WellAll P h vs (ns.map WData.int)->IntsAre vs ns:=by
 intro ns
 induction ns with
 | nil=>
  intro vs w;rw[A9b] at w;cases w;exact .nil
 | cons n ns ih=>
  intro vs w;rw[A2a] at w
  cases w with
  | cons a b=>
   cases a;exact .cons _ _ (ih _ b)
theorem script_of {n:Nat}(hn:l.most=some n){args:List WData}{vals:List Value}
  (hpre:l.row.toRowW.claim.pre args=true) (hwl:WellAll P h vals args) :
  ∃a vs ns,vals=[A3b a]/\args=[WData.list (ns.map WData.int)]/\h.get? a=some { cls:=.type "list",data:=.seq vs.toArray }/\IntsAre vs ns/\ns.length<=n:=by
 have hsh:WShape.hasAll [] args [.list .int]=true:=(pre_splitW hpre).1;have hc:l.pre.holds [] { args:=args }=true:=(pre_splitW hpre).2;obtain⟨d,r,rfl,h1,h2⟩:=hasAllW_cons hsh;obtain rfl:=hasAllW_nil h2;obtain⟨xs,rfl,h3⟩:=hasW_list h1;obtain⟨ns,rfl⟩:=items_int h3
 have hlen:ns.length<=n:=by
  unfold OpenLaw.pre at hc
  have h4:(WTm.not (.lt (.lit (.int (n:Int))) (.len (.arg 0)))).holds [] { args:=[.list (ns.map .int)] }=true:=by
   have h4:=(holds_andW hc).1;rw[hn] at h4;exact h4
  have h5:=condW_of h4 (w_not (w_lt w_lit (w_len_list (w_arg rfl))));rw[A0b] at h5;refine Nat.le_of_not_lt fun q=>?_;have q':(n:Int)<((ns.length:Nat):Int):=by omega
  first
   | (rw[decide_eq_true q'] at h5;exact absurd h5 (by decide))
   | (simp at h5;omega)
 cases hwl with
 | cons w1 w2=>
  cases w2
  cases w1 with
  | list ho hall=>exact⟨_,_,ns,rfl,rfl,ho,c6v ns _ hall,hlen⟩
theorem post_true (l:OpenLaw)(args:List WData):l.row.toRowW.claim.post args (.bool true) args=true:=
 postW_of (r:=l.row.toRowW) (X:=(true==true))
  (show WShape.has [] (.bool true) .bool=true by first|rfl|decide|simp[WShape.has,WShape.arms,WShape.armsAll])
  (show (WTm.eq .res (.lit (.bool true))).value [] { args:=args,res:=some (.bool true),after:=args }=some (.bool (true==true)) from w_eq_bool (w_res rfl) w_lit) rfl
theorem attach_call {n:Nat}{q:Program}{loose:List Str}{XP:(Str->Option Value)->Heap->Prop}{YP:World->Heap->Prop}{d:DefRec}
  (hn:l.most=some n) (hdf:d.params.defaults=[])
  (call:∀(w:World) (s₀ s₁:Shared) (mg mb:Str->Option Value) (fa:Addr) (o:Obj) (pm cd doc:Value) (a:Addr) (vs:List Value) (ns:List Int),
   Ground q loose [] XP w s₀ mg mb s₁.heap->YP w s₁.heap->
   s₁.heap.get? fa=some o->o.data=.func (docDef d.name d.params d.body d.scope pm cd doc)->s₁.heap.CodeRec cd d.name->mg d.name=some (.ref fa)->
   s₁.heap.get? a=some { cls:=.type "list",data:=.seq vs.toArray }->IntsAre vs ns->ns.length<=n->s₁.gens= #[]->
   codeAny (model l.prog w) callerA (.call (.ref fa) ⟨[.ref a],[]⟩) (fun r s'=>r=.ok (.ret (.bool true))/\OldK s₁.heap s'.heap/\s'.os=s₁.os/\AllBare s'.gens) s₁) :
  WalkO q loose XP YP l.row.toRowW d [] (fun f vs=>B1u f vs):=by
 intro w s₀ s₁ mg mb G Y fa o pm cd doc dV kV ho hd hcd hD hmg hg args vals as hpre hlay hrd hwl hlo;obtain rfl:dV=.none:=Dflts.none hD hdf;obtain rfl:kV=.none:=Dflts.noKw hD;obtain⟨a,vs,ns,rfl,rfl,hobj,hints,hlen⟩:=script_of hn hpre hwl;refine enter_call (A8z (call w s₀ s₁ mg mb fa o pm cd doc a vs ns G Y ho (fd_plain hd) hcd hmg hobj hints hlen hg) fun r s' hq=>?_);obtain⟨rfl,h2,h3,h4⟩:=hq;exact⟨.inl ⟨.bool true,.bool true,[],rfl,fun _=>rfl,.bool true,post_true l _,fun _=>⟨A7p,fun _ hm=>(nomatch hm)⟩⟩,h2,h3,h4⟩
section
variable {prog:Program}{w:World}{A:Around}{E:Value->Shared->Prop}{s:Shared}{K:Frag}
end
end Att
namespace L2
open PySem PySem.Spec PyProof.Rows
variable {K:A0a}{f:Addr}{fd:FuncData}{H H':Hp}{ps:List Str}{k:Nat}{pos:Pos}{sp:Sp}{st:Stmt}{qual:Str}
theorem vals_ints:∀{vs:List Value} {ns:List Int},IntsAre vs ns->a5q (ns.map V.int) vs
 | _,_,.nil=>.nil
 | _,_,.cons n t h=>.cons ⟨t,rfl⟩ (vals_ints h)
def Only (H:Hp):Prop:=∀b,H b=none\/∃o xs,H b=some (.frz o (.lst xs))
theorem law_call {P:Program}{w:World}{mg mb:Str->Option Value}{CX:CXT}{fa a:Addr}{x:Str}{s₁:Shared}{vs:List Value}{ns:List Int}
  (KX:K.In s₁.heap) (hns:s₁.heap.Ns mainGlobals mg) (hb:s₁.heap.Ns builtinsNs mb) (hbb:∀x:Str,x ≠ "__name__"->mb x=bootBuiltins x) (hlim:s₁.heap.NoLimit) (hg:s₁.gens= #[])
  (ha:s₁.heap.get? a=some { cls:=.type "list",data:=.seq vs.toArray }) (hi:IntsAre vs ns) (hl:ns.length<=sizeLine) (hr:b8b k callerA)
  (F:∀base:Heap,K.In base->base.Ns mainGlobals mg->a2n P w K mg base CX k fa fd [x] sp) (hbind:∀(s:Shared) (u:Value),BindsTo s fd ⟨[u],[]⟩ [(x,u)])
  (hsp:∀H:Hp,Only H->SqL K H a (ns.map V.int)->sp [.ref a] H (fun v _=>v=.bl true) fun _ _ _=>False)
  (hCX:∀H e s',CX [] H s₁ (fun _ _ _=>False) e s'->False) :
  codeAny (model P w) callerA (.call (.ref fa) ⟨[.ref a],[]⟩) (fun r s'=>r=.ok (.ret (.bool true))/\OldK s₁.heap s'.heap/\s'.os=s₁.os/\AllBare s'.gens) s₁:=by
 have rv:=vals_ints hi;have lenV:=hi.length
 have core:∀H:Hp,Only H->SqL K H a (ns.map V.int)->HOk P w H s₁.heap->(∀b,H b≠none->b=a)->(H a≠none->K.lookup a=none)->
   codeAny (model P w) callerA (.call (.ref fa) ⟨[.ref a],[]⟩) (fun r s'=>r=.ok (.ret (.bool true))/\OldK s₁.heap s'.heap/\s'.os=s₁.os/\AllBare s'.gens) s₁:=by
  intro H hO hS hok hA hK;have base_of:∀{b:Addr} {o:Obj},s₁.heap.get? b=some o->H b=none->(hidT s₁.heap H).get? b=some o:=fun e n=>hidT_get e n
  have noA:∀{b:Addr} {o:Obj} {es:Array DictEntry} {ep:Nat},s₁.heap.get? b=some o->o.data=.dict es ep->H b=none:=fun {b o es ep} e d=>by
   cases q:H b with
   | none=>rfl
   | some u=>
    have e':b=a:=hA b (by rw[q];simp);subst e';rw[ha] at e;cases e;have d':Data.seq vs.toArray _=Data.dict es ep:=d;cases d'
  have nsK:∀{b:Addr} {m:Str->Option Value},s₁.heap.Ns b m->(hidT s₁.heap H).Ns b m:=fun {b m} ⟨o,es,ep,e,d,r⟩=>⟨o,es,ep,base_of e (noA e d),d,r⟩
  have hKb:K.In (hidT s₁.heap H):=fun b o e=>base_of (KX b o e) (by
   cases q:H b with
   | none=>rfl
   | some u=>
    have e':b=a:=hA b (by rw[q];simp);subst e'
    rw[hK (by rw[q];simp)] at e;cases e)
  have hM:Mod K mg (hidT s₁.heap H):=⟨hKb,nsK hns,⟨mb,nsK hb,hbb⟩,let ⟨mc,h1,h2⟩:=hlim;⟨mc,nsK h1,h2⟩⟩;have e0:Env0 P w K mg (hidT s₁.heap H) callerA [] s₁ H:=⟨rfl,hM,fun b o e=>of_hidT e,B2b (hidT_size _ _),trivial,fun b hb=>absurd (show b∈([]:List Addr) from hb) (by simp),hok,.of_eq hg⟩;refine A8z ((F _ hKb (nsK hns)).run callerA [] s₁ H ⟨[.ref a],[]⟩ [.ref a] [.ref a] _ _ hr e0 (hbind s₁ (.ref a)) (.cons rfl .nil) (hsp H hO hS)) fun r s' h=>?_
  cases r with
  | error e=>exact(hCX H e s' h).elim
  | ok fl=>
   cases fl with
   | next=>exact A4c h
   | brk=>exact A4c h
   | cont=>exact A4c h
   | ret u=>
    obtain⟨v,H',os,bare,un,hok',r',q⟩:=h;have q':v=.bl true:=q;subst q';obtain rfl:u=B1a true:=r';refine⟨rfl,OldK.of_keep fun b o e=>?_,os,bare⟩
    cases q:H b with
    | none=>exact un.keep b o e q (by intro z;exact absurd (show b∈([]:List Addr) from z) (by simp)) (by simp)
    | some u=>
     rcases hO b with z|⟨ob,xs,z⟩
     ·rw[q] at z;cases z
     ·have z2:=un.frzs b ob _ z;obtain⟨e1,_⟩:=hok b _ z;obtain⟨e2,_⟩:=hok' b _ z2;rw[e] at e1;cases e1;exact e2
 cases hk:K.lookup a with
 | some o=>
  have e:=KX a o hk;rw[ha] at e;cases e;refine core (fun _=>none) (fun _=>.inl rfl) (.inr ⟨_,vs.toArray,_,hk,rfl,rfl,rfl,by rw[A0z,lenV];exact hl,by simpa using rv⟩) (fun b u z=>by have z':(none:Option HO)=some u:=z;cases z') (fun b z=>absurd rfl z) fun z=>absurd rfl z
 | none=>
  refine core (fun b=>if b=a then some (.frz { cls:=.type "list",data:=.seq vs.toArray } (.lst (ns.map V.int))) else none) (fun b=>?_) (.inl (.inr ⟨{ cls:=.type "list",data:=.seq vs.toArray },if_pos rfl⟩)) (fun b u z=>?_) (fun b z=>?_) fun _=>hk
  ·by_cases hb:b=a
   ·exact .inr ⟨_,_,if_pos hb⟩
   ·exact .inl (if_neg hb)
  ·by_cases hb:b=a
   ·have z':=(if_pos hb).symm.trans z;cases z';subst hb;exact⟨ha,by rw[A0b];exact hl,vs,_,rv,ha⟩
   ·have z':=(if_neg hb).symm.trans z;cases z'
  ·by_cases hb:b=a
   ·exact hb
   ·exact absurd (if_neg hb) z
theorem walk_of {l:B0s}{n:Nat}{q:Program}{loose:List Str}{XP:(Str->Option Value)->Heap->Prop}{YP:World->Heap->Prop}{d:DefRec}{K:Params->A0a}{CX:World->CXT}{sp:World->Sp}{x:Str}
  (hn:l.most=some n) (hn2:n<=sizeLine) (hdf:d.params.defaults=[]) (hr:b8b k callerA)
  (hY:∀(w:World) (h:Heap),YP w h->(K w.params).In h)
  (F:∀(w:World) (mg:Str->Option Value) (fa:Addr) (h:Heap),(K w.params).In h->h.Ns mainGlobals mg->mg d.name=some (.ref fa)->
   ∃fd:FuncData,(∀(s:Shared) (u:Value),BindsTo s fd ⟨[u],[]⟩ [(x,u)])/\
    ∀base:Heap,(K w.params).In base->base.Ns mainGlobals mg->a2n l.prog w (K w.params) mg base (CX w) k fa fd [x] (sp w))
  (hsp:∀(w:World) (H:Hp) (a:Addr) (ns:List Int),ns.length<=n->Only H->SqL (K w.params) H a (ns.map V.int)->sp w [.ref a] H (fun v _=>v=.bl true) fun _ _ _=>False)
  (hCX:∀(w:World) (H:Hp) (s:Shared) (e:Value) (s':Shared),CX w [] H s (fun _ _ _=>False) e s'->False) :
  PySem.W.WalkO q loose XP YP l.row.toRowW d [] (fun f vs=>B1u f vs):=by
 refine Att.attach_call hn hdf fun w s₀ s₁ mg mb fa o pm cd doc a vs ns G Y ho hd hcd hmg hobj hints hlen hg=>?_;have KX:=hY w _ Y;obtain⟨fd,hb,hF⟩:=F w mg fa _ KX G.T.g hmg;exact law_call KX G.T.g G.T.b G.T.builtins G.T.nolimit hg hobj hints (A1z hlen hn2) hr hF hb (fun H hO hS=>hsp w H a ns hlen hO hS) fun H e s'=>hCX w H s₁ e s'
def a1u (s:Stmt)(j:Nat):Stmt:=match s with
 | .ClassDef _ _ _ body _ _ _ _ _ _ _=>body.getD j (.Pass ⟨0,0,0,0⟩)
 | _=>.Pass ⟨0,0,0,0⟩
def a9f (s:Stmt):Arguments:=match s with
 | .FunctionDef _ a _ _ _ _ _ _ _ _=>a
 | _=>{ posonlyargs:=[],args:=[],vararg:=none,kwonlyargs:=[],kw_defaults:=[],kwarg:=none,defaults:=[] }
def a6r (s:Stmt):List Stmt:=match s with
 | .FunctionDef _ _ b _ _ _ _ _ _ _=>b
 | _=>[]
def a0g (s:Stmt):Scope:=match s with
 | .FunctionDef _ _ _ _ _ _ sc _ _ _=>sc
 | _=>{ kind:=.function,names:=[],isGenerator:=false,isCoroutine:=false }
abbrev CX0:CXT:=fun _ _ _ _ _ _=>False
abbrev E0:XK:=fun _ _ _=>False
theorem a0r {X:Cx}:b5c CX0 X E0:=fun _ _ _ _ _ _ _ h=>h.elim
structure Fun (K:A0a)(x qual:Str)(st:Stmt)(f:Addr)(fd:FuncData):Prop where
 ex:∃(oc:Value) (od:Option Addr) (kV doc pm:Value) (an:Option Addr) (cdv ct:Value) (osl:Array (Option Value)),
  fd=A3s x qual (a9f st) (a6r st) (a0g st) .none kV doc pm an cdv ct/\K.lookup f=some ⟨oc,od,.func fd,osl⟩/\A5r K cdv qual=true
 kp:A3f K (.ref f)=true
section
variable {P:Program}{w:World}{K:A0a}{mg:Str->Option Value}{base:Heap}
theorem Fun.ok {x:Str}{N:List Str}(F:Fun K x qual st f fd)(S:a0n N ps (a0g st))(len:∀vs H Q E,sp vs H Q E->vs.length=ps.length)
  (hbody:∀(cdv:Value) (A:Around) (outer:List Env) (s:Shared) (H:Hp) (vs:List V) (Q:VK) (E:XK),b8b k (A.deeper (envOfC qual (a0g st) s.heap.objs.size f cdv))->sp vs H Q E->
   ∃t,PSs (cxOf CX0 P w K mg base N qual (a0g st) f cdv A outer s H E).nox (a6r st) t/\t { nx:=fun _ H'=>Q .non H',rt:=Q } (start N vs) H):a2n P w K mg base CX0 (k+1) f fd ps sp:=by
 obtain⟨oc,od,kV,doc,pm,an,cdv,ct,osl,rfl,lk,hcd⟩:=F.ex;refine fn_of lk hcd S len fun A outer s H vs Q E hr hsp=>?_;obtain⟨t,h,q⟩:=hbody cdv A outer s H vs Q E hr hsp;exact⟨t,h.nox,q⟩
theorem Fun.binds {x:Str}(F:Fun K x qual st f fd)
  (h:∀(kV doc pm:Value) (an:Option Addr) (cdv ct:Value) (us:List Value),us.length=ps.length->bindArgs (A3s x qual (a9f st) (a6r st) (a0g st) .none kV doc pm an cdv ct) ⟨us,[]⟩=pure (ps.zip us)):c1m K fd ps []:=by
 obtain⟨oc,od,kV,doc,pm,an,cdv,ct,osl,rfl,lk,hcd⟩:=F.ex;exact .all (h kV doc pm an cdv ct)
theorem fun_mk {x:Str}{oc:Value}{od an:Option Addr}{osl:Array (Option Value)}{kV doc pm cdv ct:Value}(l:K.lookup f=some ⟨oc,od,.func (A3s x qual (a9f st) (a6r st) (a0g st) .none kV doc pm an cdv ct),osl⟩)
  (c:A5r K cdv qual=true) (k:A3f K (.ref f)=true):Fun K x qual st f (A3s x qual (a9f st) (a6r st) (a0g st) .none kV doc pm an cdv ct):=⟨⟨oc,od,kV,doc,pm,an,cdv,ct,osl,rfl,l,c⟩,k⟩
end
theorem hu_of {A:Around}(hr:b8b k A):A.units+1<cLine:=A2m (Nat.add_le_add_left (by decide:1<=64) _) hr.units
theorem a3n {n:Nat}(h:n<=1000):n<sizeLine:=A2m h (by decide)
section
variable {X:Cx}
theorem pv (i:Nat){x:Str}(hN:X.N[i]? = some x:=by rfl)(hv:Vis X.env.scope x:=by first|exact Or.inl rfl|exact Or.inr (Or.inl rfl)|exact Or.inr (Or.inr rfl))(hd:(x==("__debug__":Str))=false:=by decide)
  (hcd:(x==("__classdict__":Str))=false:=by decide):PE X (.Name x pos) (tVar i):=pe_var hN hv hd hcd
end
theorem iteF {A B:Prop}(h:B):if false=true then A else B:=by
 rw[if_neg A1a];exact h
theorem iteT {A B:Prop}(h:A):if true=true then A else B:=by
 rw[if_pos rfl];exact h
def a1n (H H':Hp):Prop:=∀b o,H b=some o->H' b=some o
theorem a1n.refl (H:Hp):a1n H H:=fun _ _ h=>h
theorem a1n.trans {H1 H2:Hp}(a:a1n H H1)(b:a1n H1 H2):a1n H H2:=fun c o h=>b c o (a c o h)
theorem a1n.free (e:a1n H H'){l:Addr}(h:H' l=Option.none):H l=Option.none:=by
 cases q:H l with
 | none=>rfl
 | some o=>
  rw[e l o q] at h;cases h
theorem a1n.seq {a:Addr}{xs:List V}(e:a1n H H')(h:SqL K H a xs):SqL K H' a xs:=by
 rcases h with (h|⟨o,h⟩)|h
 ·exact .inl (.inl (e _ _ h))
 ·exact .inl (.inr ⟨o,e _ _ h⟩)
 ·exact .inr h
structure Cal (P:Program)(w:World)(K:A0a)(mg:Str->Option Value)(base:Heap)(CX:CXT)(k:Nat)(x:Str)(ps:List Str)(sp:Sp):Prop where
 ex:∃f fd,a2n P w K mg base CX k f fd ps sp/\c1m K fd ps []/\A3f K (.ref f)=true/\mg x=some (.ref f)
def GC (mg:Str->Option Value)(x:Str)(v:V):Prop:=∃u,mg x=some u/\a8e v u
section
variable {X:Cx}{CX:CXT}{j k:Nat}{ps:List Str}{sp:Sp}{E:XK}{x:Str}{v:V}{p pos:Pos}{e:Expr}{es:List Expr}{t:TA}
theorem a0y (c:Cal X.prog X.w X.K X.mg X.base CX k x ps sp)(hr:b8b j X.A)(hx:b5c CX X E)(ha:PA X (e::es) t)(hk:k<=j:=by decide)(hg:Gl X x:=by rfl)(hdb:(x==("__debug__":Str))=false:=by decide)
  (he:starEach (e::es) X.env=(false,eval e X.env)::starEach es X.env:=by rfl) (hpl:(backTo pos (starEach es X.env)).any (·.1)=false:=by rfl) :
  PE X (.Call (.Name x p) (e::es) [] pos) (tCall sp [] E t):=by
 obtain⟨f,fd,F,b,kp,m⟩:=c.ex;exact pe_call F (hr.mono hk) hg m kp b .nil hx ha hdb he hpl
theorem a1p (h:GC X.mg x v)(hg:Gl X x:=by rfl)(hd:(x==("__debug__":Str))=false:=by decide):PE X (.Name x pos) (tC v):=by
 obtain⟨u,m,r⟩:=h;exact pe_glob hg m r hd
def CDivW (i j:Int):Prop:=0<j/\j<2^200
theorem a8b:OpR X (binaryOp .FloorDiv) (rI CDivW fun i j=>.int (i/j)):=opI fun i j _ _ _ _ _ hc q=>by
 have h1:(0:Int)<j:=hc.1;have h2:j<2^200:=hc.2;have h3:j.natAbs<2^200:=by omega
 have h4:j.natAbs.log2<200:=(Nat.log2_lt (by omega)).mpr h3;exact floordiv_int (by omega) (by rw[A8u i (by omega)];exact q) (.inl (PyProof.noPylong_of_log2 (by omega)))
end
mutual
inductive DV (K:A0a) (H:Hp):V->PyData->Prop
 | non:DV K H .non .none
 | bl (b:Bool):DV K H (.bl b) (.bool b)
 | int (i:Int):DV K H (.int i) (.int i)
 | str (x:Str):DV K H (.str x) (.str x)
 | tup {a xs ds}:SqT K H a xs->DVs K H xs ds->DV K H (.ref a) (.tuple ds)
 | lst {a xs ds}:SqL K H a xs->DVs K H xs ds->DV K H (.ref a) (.list ds)
inductive DVs (K:A0a) (H:Hp):List V->List PyData->Prop
 | nil:DVs K H [] []
 | cons {x xs d ds}:DV K H x d->DVs K H xs ds->DVs K H (x::xs) (d::ds)
end
section
variable {X:Cx}{pins:List (Addr×Obj)}{σ:St}{H:Hp}{s:Shared}
mutual
theorem DV.reads (I:Inv X pins σ H s):∀{x:V} {d:PyData} {u:Value},DV X.K H x d->a8e x u->∃as,Reads s.heap u d as
 | _,_,_,.non,r=>by cases r;exact⟨_,Reads.none⟩
 | _,_,_,.bl b,r=>by cases r;exact⟨_,Reads.bool b⟩
 | _,_,_,.int i,r=>by obtain⟨t,rfl⟩:=r;exact⟨_,Reads.int i t⟩
 | _,_,_,.str x,r=>by obtain⟨t,rfl⟩:=r;exact⟨_,Reads.str x t⟩
 | _,_,_,.tup h hs,r=>by
  cases r;obtain⟨its,rs,⟨o,ho,hc,n,hd⟩,_⟩:=I.tuple h;obtain⟨as,q⟩:=DVs.reads I hs rs;exact⟨_,reads_tuple_at ho hc hd (by simpa using q)⟩
 | _,_,_,.lst h hs,r=>by
  cases r;obtain⟨its,rs,⟨o,n,ho,hc,_,hd⟩,_⟩:=I.list h;obtain⟨as,q⟩:=DVs.reads I hs rs;exact⟨_,reads_list_at ho hc hd (by simpa using q)⟩
theorem DVs.reads (I:Inv X pins σ H s):∀{xs:List V} {ds:List PyData} {us:List Value},DVs X.K H xs ds->a5q xs us->∃as,ReadsAll s.heap us ds as
 | _,_,_,.nil,.nil=>⟨_,ReadsAll.nil⟩
 | _,_,_,.cons h hs,.cons r rs=>by
  obtain⟨as,q⟩:=DV.reads I h r;obtain⟨bs,p⟩:=DVs.reads I hs rs;exact⟨_,ReadsAll.cons q p⟩
end
def rEqD (K:A0a):R2:=fun x y H Q=>∃d e,DV K H x d/\DV K H y e/\A7v d=true/\A7v e=true/\Q (.bl (A4v d e)) H
def rNeD (K:A0a):R2:=fun x y H Q=>∃d e,DV K H x d/\DV K H y e/\A7v d=true/\A7v e=true/\Q (.bl (!A4v d e)) H
theorem op_eqD (hu:X.A.units+64<cLine):OpR X (compareOp .Eq) (rEqD X.K):=by
 intro pins s σ H x y v u Q I rx ry h;obtain⟨d,e,hd,he,sd,se,q⟩:=h;obtain⟨as,ra⟩:=hd.reads I rx;obtain⟨bs,rb⟩:=he.reads I ry;exact eq_dataH ra rb sd se hu ⟨.bl _,H,I,rfl,q⟩
theorem op_neD (hu:X.A.units+64<cLine):OpR X (compareOp .NotEq) (rNeD X.K):=by
 intro pins s σ H x y v u Q I rx ry h;obtain⟨d,e,hd,he,sd,se,q⟩:=h;obtain⟨as,ra⟩:=hd.reads I rx;obtain⟨bs,rb⟩:=he.reads I ry;exact ne_dataH ra rb sd se hu ⟨.bl _,H,I,rfl,q⟩
end
theorem a1n.tup {a:Addr}{xs:List V}(e:a1n H H')(h:SqT K H a xs):SqT K H' a xs:=by
 rcases h with (h|⟨o,h⟩)|h
 ·exact .inl (.inl (e _ _ h))
 ·exact .inl (.inr ⟨o,e _ _ h⟩)
 ·exact .inr h
theorem a0e {p:Addr}(h:H p=none)(o:HO):a1n H (upd H p o):=fun b u q=>by rw[a0w (a0j q h)];exact q
theorem boot_bool:bootBuiltins "bool" = some (.type "bool"):=by decide +kernel
theorem d6g:bootBuiltins "int" = some (.type "int"):=by decide +kernel
theorem boot_str:bootBuiltins "str" = some (.type "str"):=by decide +kernel
theorem a8y:bootBuiltins "list" = some (.type "list"):=by decide +kernel
theorem b3m:bootBuiltins "tuple" = some (.type "tuple"):=by decide +kernel
section
variable {X:Cx}
def rIsi (K:A0a)(c:V)(cv:Value):List V->Hp->VK->Prop:=fun xs H Q=>∃x t b,xs=[x,c]/\c5j K H x t/\A2p K t cv=some b/\Q (.bl b) H
theorem call_isi {c:V}{cv:Value}(hc:∀u,a8e c u->u=cv):b2z X (.builtin "isinstance") (rIsi X.K c cv):=by
 intro pins s σ H xs us Q I r h;obtain⟨x,t,b,rfl,ty,e,q⟩:=h;obtain⟨u,w,rfl,ru,rw'⟩:=a5q.two r;cases hc w rw';exact isinst_ok I ru ty e fun tk=>⟨.bl b,H,I.tok tk,rfl,q⟩
theorem b6w {x:Str}{T:String}{p p2:Pos}{e:Expr}{te:TE}(hg:Gl X "isinstance")(hm:X.mg "isinstance" = none)(he:PE X e te)(hmT:X.mg x=none)(hT:bootBuiltins x=some (.type T))(hgT:Gl X x:=by rfl)(hn:x ≠ "__name__":=by decide)(hd:(x==("__debug__":Str))=false:=by decide)
  (h1:starEach [e,.Name x p2] X.env=(false,eval e X.env)::starEach [.Name x p2] X.env:=by rfl) (h2:(backTo pos (starEach [.Name x p2] X.env)).any (·.1)=false:=by rfl) :
  PE X (.Call (.Name "isinstance" p) [e,.Name x p2] [] pos) (tCB (rIsi X.K (.ty T) (.type T)) (c4p te (c4p (tC (.ty T)) tNil))):=
 a1x (call_isi fun u hu=>hu) hg hm boot_isinstance (a0a he (a0a (pe_bltn hgT hmT hT rfl hn hd) a0c) h1) (by decide) (by decide) h1 h2
end
end L2
namespace Tw
theorem pop_dec {n:Nat}(h:¬n=0):n/2<n:=Nat.div_lt_self (Nat.pos_of_ne_zero h) (by decide)
def pop (n:Nat):Nat:=if h:n=0 then 0 else n%2+pop (n/2)
termination_by n
decreasing_by exact pop_dec h
theorem a9t:pop 0=0:=by rw[pop];rfl
theorem b0c (n:Nat):pop n=n%2+pop (n/2):=by
 by_cases h:n=0
 ·subst h;rw[a9t]
 ·rw[pop,dif_neg h]
theorem d5v (a b:Nat):(a&&&b)%2=(a%2)*(b%2):=by
 have h:=A7w;have ha:a%2=a&&&1:=(A4f a).symm;rw[<- A4f,<- A4f,<- A4f]
 have e:(a&&&b)&&&1=(a&&&1)&&&(b&&&1):=by
  apply A1h;intro i;simp only[A1k];cases a.testBit i<;>cases b.testBit i<;>cases (1:Nat).testBit i<;>rfl
 rw[e,A4f a,A4f b]
 rcases A2c a with h|h<;>rcases A2c b with h'|h'<;>rw[h,h']<;>rfl
theorem c1e (a b:Nat):(a&&&b)/2=(a/2)&&&(b/2):=by
 apply A1h;intro i;rw[A1k,A2w,A2w,A2w,A1k]
theorem pop_pred:∀n:Nat,0<n->pop (n&&&(n-1))+1=pop n:=by
 intro n
 induction n using A7d with
 | ind n ih=>
  intro h;rw[b0c (n&&&(n-1)),b0c n,d5v,c1e]
  rcases A2c n with e|e
  ·have h2:0<n/2:=by omega
   have e2:(n-1)/2=n/2-1:=by omega
   have:=ih (n/2) (by omega) h2;rw[e2,e];omega
  ·have e2:(n-1)/2=n/2:=by omega
   have e3:(n-1)%2=0:=by omega
   have e4:n/2&&&n/2=n/2:=Nat.and_self _;rw[e2,e3,e,e4];omega
theorem and_pred_lt {n:Nat}(h:0<n):n&&&(n-1)<n:=by
 have:=Nat.and_le_right (n:=n) (m:=n-1);omega
def cnt (p:Nat->Bool):Nat->Nat
 | 0=>0
 | k+1=>cnt p k+(p k).toNat
theorem cnt_succ' (p:Nat->Bool):∀k,cnt p (k+1)=(p 0).toNat+cnt (fun i=>p (i+1)) k
 | 0=>by simp[cnt]
 | k+1=>by
  have:=cnt_succ' p k;rw[cnt,this,cnt];omega
theorem c9k {p q:Nat->Bool}:∀{k:Nat},(∀i,i<k->p i=q i)->cnt p k=cnt q k
 | 0,_=>rfl
 | k+1,h=>by rw[cnt,cnt,c9k fun i hi=>h i (by omega),h k (by omega)]
theorem cnt_le (p:Nat->Bool):∀k,cnt p k<=k
 | 0=>A0k _
 | k+1=>by
  have:=cnt_le p k;rw[cnt];cases p k<;>simp<;>omega
theorem b2h:∀(k n:Nat),n<2^k->pop n=cnt n.testBit k
 | 0,n,h=>by
  have:n=0:=by simpa using h
  subst this;exact a9t
 | k+1,n,h=>by
  rw[b0c,cnt_succ'];have h2:n/2<2^k:=by rw[A2s] at h;omega
  rw[b2h k (n/2) h2]
  have e0:n%2=(n.testBit 0).toNat:=by
   rw[A2j]
   rcases A2c n with e|e<;>rw[e]<;>rfl
  rw[e0]
  congr 1
  exact c9k fun i _=>by rw[A2w]
def bI (b:Bool):Int:=if b then 1 else 0
theorem b6r {a b k:Nat}(h1:a<2^k)(h2:b<2^k):a^^^b<2^k:=A1p h1 h2
theorem or_div2 (a b:Nat):(a|||b)/2=(a/2)|||(b/2):=by
 apply A1h;intro i;rw[A4q,A2w,A2w,A2w,A4q]
theorem xor_div2 (a b:Nat):(a^^^b)/2=(a/2)^^^(b/2):=by
 apply A1h;intro i;rw[A0m,A2w,A2w,A2w,A0m]
theorem c6y (a:Nat):a%2=(a.testBit 0).toNat:=by
 rw[A2j]
 rcases A2c a with e|e<;>rw[e]<;>rfl
theorem or_mod2 (a b:Nat):(a|||b)%2+(a&&&b)%2=a%2+b%2:=by
 rw[c6y,c6y (a&&&b),c6y a,c6y b,A4q,A1k];cases a.testBit 0<;>cases b.testBit 0<;>rfl
theorem xor_mod2 (a b:Nat):(a^^^b)%2+(a&&&b)%2=(a|||b)%2:=by
 rw[c6y,c6y (a&&&b),c6y (a|||b),A4q,A1k,A0m];cases a.testBit 0<;>cases b.testBit 0<;>rfl
theorem b7q:∀a b:Nat,(a|||b)+(a&&&b)=a+b:=by
 intro a
 induction a using A7d with
 | ind a ih=>
  intro b
  by_cases ha:a=0
  ·subst ha;simp
  ·have q:=ih (a/2) (by omega) (b/2);have h1:=or_div2 a b;have h2:=c1e a b;have h3:=or_mod2 a b;rw[<- h1,<- h2] at q;omega
theorem b0n:∀a b:Nat,(a^^^b)+(a&&&b)=a|||b:=by
 intro a
 induction a using A7d with
 | ind a ih=>
  intro b
  by_cases ha:a=0
  ·subst ha;simp
  ·have q:=ih (a/2) (by omega) (b/2);have h1:=or_div2 a b;have h2:=c1e a b;have h4:=xor_div2 a b;have h3:=xor_mod2 a b;rw[<- h1,<- h2,<- h4] at q;omega
theorem pow2_cast (n:Nat):((2:Int)^n)=((2^n:Nat):Int):=by push_cast;rfl
theorem emod_nat (y:Int){n:Nat}(h:0<n):∃k:Nat,y%(n:Int)=(k:Int)/\k<n:=by
 have h1:=A5y y (show ((n:Int))≠0 by omega);have h2:=A5u y (show (0:Int)<(n:Int) by omega);exact⟨(y%n).toNat,by omega,by omega⟩
end Tw
namespace L2
open PySem PySem.Spec PyProof.Rows
variable {K:A0a}{a p:Addr}{A:Around}{X:Cx}{env:Env}{o:HO}{H:Hp}{xs:List V}{sc scope:Scope}{s:Shared}{σ:St}{y:Str}{ta te:TE}{g:TG}{tb:TS}{tt:TT}{Q:VK}{w:World}{E:XK}{D:c4x}
theorem scal_ii (a b:Int):scal (.int a) (.int b)=true:=rfl
theorem scal_bb (a b:Bool):scal (.bl a) (.bl b)=true:=rfl
theorem scal_ss (a b:Str):scal (.str a) (.str b)=true:=rfl
theorem sz_le {n:Nat}(h:n<=1000):(n<=sizeLine)=True:=eq_true (A3q (a3n h))
theorem sz2:(2<=sizeLine)=True:=sz_le (by decide)
theorem sz3:(3<=sizeLine)=True:=sz_le (by decide)
theorem sz4:(4<=sizeLine)=True:=sz_le (by decide)
theorem a7z (a b:Nat):A2e (a:Int) (b:Int)=((a&&&b:Nat):Int):=by
 rw[bitAnd_pp (by omega) (by omega)];simp
theorem bitOr_nat (a b:Nat):A8g (a:Int) (b:Int)=((a|||b:Nat):Int):=by
 have h:A8g (a:Int) (b:Int)=a+b-((a&&&b:Nat):Int):=by rw[bitOr_and,a7z]
 have e:=Tw.b7q a b;omega
theorem b7z (a b:Nat):A3x (a:Int) (b:Int)=((a^^^b:Nat):Int):=by
 have h:A3x (a:Int) (b:Int)=((a|||b:Nat):Int)-((a&&&b:Nat):Int):=by
  show A8g _ _-A2e _ _=_;rw[bitOr_nat,a7z]
 have e:=Tw.b0n a b;omega
theorem bitAnd_bit (x i:Nat):A2e ((x:Int)/2^i) 1=Tw.bI (x.testBit i):=by
 have e:((x:Int)/2^i)=((x/2^i:Nat):Int):=by push_cast;rfl
 have e1:(1:Int)=((1:Nat):Int):=rfl;rw[e,e1,a7z,A4f];rw[Nat.testBit_eq_decide_div_mod_eq];unfold Tw.bI
 rcases A2c (x/2^i) with h|h<;>rw[h]<;>rfl
theorem bitAnd_pred {n:Nat}(h:0<n):A2e (n:Int) ((n:Int)-1)=((n&&&(n-1):Nat):Int):=by
 have e:((n:Int)-1)=((n-1:Nat):Int):=by omega
 rw[e,a7z]
theorem SqT.upd {K:A0a}{H:Hp}{p a:Addr}{o:HO}{xs:List V}(h:H p=none)(s:SqT K H a xs):SqT K (upd H p o) a xs:=(a0e h o).tup s
theorem SqL.upd {K:A0a}{H:Hp}{p a:Addr}{o:HO}{xs:List V}(h:H p=none)(s:SqL K H a xs):SqL K (upd H p o) a xs:=(a0e h o).seq s
theorem a1n.updR {H1:Hp}(s:a1n H H1)(h:H1 p=none):a1n H (upd H1 p o):=s.trans (a0e h o)
theorem upd_get {u:HO}(h:H p=none)(s:H a=some u):upd H p o a=some u:=a0e h o a u s
section
variable {K:A0a}{H:Hp}{Q:VK}{a b:Addr}{i j:Int}{x y:Str}{p q:Bool}
theorem rEq_i:rEq (.int i) (.int j) H Q=Q (.bl (decide (i=j))) H:=by
 unfold rEq;rw[scal_ii];simp only[V.int.injEq,true_and]
theorem rNe_i:rNe (.int i) (.int j) H Q=Q (.bl (!decide (i=j))) H:=by
 unfold rNe;rw[scal_ii];simp only[V.int.injEq,true_and]
theorem rNe_b:rNe (.bl p) (.bl q) H Q=Q (.bl (!decide (p=q))) H:=by
 unfold rNe;rw[scal_bb];simp only[V.bl.injEq,true_and]
theorem rEq_s:rEq (.str x) (.str y) H Q=Q (.bl (decide (x=y))) H:=by
 unfold rEq;rw[scal_ss];simp only[V.str.injEq,true_and]
end
theorem cxOf_K {CX:CXT}{P:Program}{mg:Str->Option Value}{base:Heap}{N:List Str}{qual:Str}{f:Addr}{cd:Value}{outer:List Env}:(cxOf CX P w K mg base N qual scope f cd A outer s H E).K=K:=rfl
theorem cpow_n {i:Int}{n:Nat}(h:n<=1000)(h2:i.natAbs<2^64:=by decide):CPow i (n:Int):=⟨by omega,by omega,h2⟩
theorem c2j {K:A0a}{H:Hp}:∀is:List Int,DVs K H (is.map V.int) (is.map B1z)
 | []=>.nil
 | _::r=>.cons (.int _) (c2j r)
theorem d4n:∀is js:List Int,A2x (is.map B1z) (js.map B1z)=decide (is=js)
 | [],[]=>by simp[A2x]
 | [],_::_=>by simp[A2x]
 | _::_,[]=>by simp[A2x]
 | a::r,b::t=>by
  simp only[A2a,A2x,A4v,d4n r t]
  by_cases h:a=b<;>by_cases h':r=t<;>simp[h,h']
section
variable {K:A0a}{H:Hp}{Q:VK}{a b:Addr}{i1 i2 i3 j1 j2 j3:Int}
end
section
variable {K:A0a}{H:Hp}{Q:VK}{R:Bool->Hp->Prop}{D:c4x}{σ:St}{t u:TS}{te ta tb:TE}{tt tu:TT}{tA:TA}{g:TG}{gs:TGs}{v w:V}{a b:Addr}{i j:Int}{p q:Bool}{x y:Str}{n m k:Nat}
theorem st_seq (h:t { D with nx:=u D } σ H):tSeq t u D σ H:=h
theorem st_next (h:D.nx σ H):tNext D σ H:=h
theorem st_asg (h:te σ H fun x H1=>g x σ H1 D.nx):tAsg te g D σ H:=h
theorem st_ret (h:te σ H D.rt):tRet te D σ H:=h
theorem st_drop (h:te σ H fun _ H1=>D.nx σ H1):tDrop te D σ H:=h
theorem st_if (h:tt σ H fun b H1=>if b=true then t D σ H1 else u D σ H1):tIfS tt t u D σ H:=h
theorem st_gname {P:St->Hp->Prop}(h:P (σ.set n (some v)) H):gName n v σ H P:=h
theorem st_gtup {P:St->Hp->Prop}(s:SqT K H a xs)(l:xs.length=n)(h:gs xs σ H P):gTup K n gs (.ref a) σ H P:=⟨a,xs,rfl,s,l,h⟩
theorem st_gcons {P:St->Hp->Prop}{r:List V}(h:g v σ H fun σ' H'=>gs r σ' H' P):gCons g gs (v::r) σ H P:=⟨v,r,rfl,h⟩
theorem st_gnil {P:St->Hp->Prop}(h:P σ H):gNil [] σ H P:=⟨rfl,h⟩
theorem st_c (h:Q v H):tC v σ H Q:=h
theorem st_var (e:σ[n]? = some (some v))(h:Q v H):tVar n σ H Q:=⟨v,e,h⟩
theorem st_op {r:R2}(h:ta σ H fun x H1=>tb σ H1 fun y H2=>r x y H2 Q):tOp r ta tb σ H Q:=h
theorem st_un {r:V->Hp->VK->Prop}(h:ta σ H fun x H1=>r x H1 Q):tUn r ta σ H Q:=h
theorem st_test (h:te σ H fun x H'=>∃k,x=.bl k/\R k H'):tTest te σ H R:=h
theorem st_tB (h:te σ H fun x H'=>∃k,x=.bl k/\R k H'):tB te σ H R:=h
theorem st_bl {P:Bool->Prop}(h:P p):∃k,V.bl p=V.bl k/\P k:=⟨p,rfl,h⟩
theorem st_and (h:tt σ H fun c H1=>if c=true then tu σ H1 R else R false H1):tAnd tt tu σ H R:=h
theorem st_or (h:tt σ H fun c H1=>if c=true then R true H1 else tu σ H1 R):tOr tt tu σ H R:=h
theorem st_not (h:tt σ H fun c H1=>R (!c) H1):tNot tt σ H R:=h
theorem st_andV (h:ta σ H fun x H1=>∃c,x=.bl c/\if c=true then tb σ H1 Q else Q (.bl false) H1):tAndV ta tb σ H Q:=h
theorem st_notV (h:ta σ H fun x H1=>∃c,x=.bl c/\Q (.bl (!c)) H1):tNotV ta σ H Q:=h
theorem st_ifE (h:tt σ H fun c H1=>if c=true then ta σ H1 Q else tb σ H1 Q):tIf tt ta tb σ H Q:=h
theorem st_call {sp:Sp}{dvs:List V}(h:tA σ H fun vs H1=>sp (vs++dvs) H1 Q E):tCall sp dvs E tA σ H Q:=h
theorem st_cb {r:List V->Hp->VK->Prop}(h:tA σ H fun vs H1=>r vs H1 Q):tCB r tA σ H Q:=h
theorem st_cons {P:List V->Hp->Prop}(h:te σ H fun x H1=>tA σ H1 fun xs H2=>P (x::xs) H2):c4p te tA σ H P:=h
theorem st_nil {P:List V->Hp->Prop}(h:P [] H):tNil σ H P:=h
theorem st_tup (h:tA σ H fun xs H1=>xs.length<=sizeLine/\∀p,H1 p=none->Q (.ref p) (upd H1 p (.tup xs))):tTup tA σ H Q:=h
theorem st_lst (h:tA σ H fun xs H1=>xs.length<=sizeLine/\∀p,H1 p=none->Q (.ref p) (upd H1 p (.lst xs))):tLst tA σ H Q:=h
theorem st_size {A:Prop}(h:Nat.ble xs.length 1000=true)(q:A):xs.length<=sizeLine/\A:=⟨A3q (a3n (B0n h)),q⟩
theorem st_part {P:Option Int->Hp->Prop}(h:te σ H fun x H1=>∃i,x=.int i/\P (some i) H1):tPart te σ H P:=h
theorem st_int {P:Int->Prop}(h:P i):∃k,V.int i=V.int k/\P k:=⟨i,rfl,h⟩
theorem st_nopart {P:Option Int->Hp->Prop}(h:P none H):tNoPart σ H P:=h
theorem st_sl {r:V->Option Int->Option Int->Hp->VK->Prop}{tl th:TO}(h:te σ H fun x H1=>tl σ H1 fun l H2=>th σ H2 fun u H3=>r x l u H3 Q):tSl r te tl th σ H Q:=h
theorem st_slL {lo hi:Option Int}(s:SqL K H a xs)(h:∀p,H p=none->Q (.ref p) (upd H p (.lst (c7g xs lo hi)))):rSlL K (.ref a) lo hi H Q:=⟨a,xs,rfl,s,h⟩
theorem d7a {g:Int->Int->V}(h:Q (g i j) H):rI0 g (.int i) (.int j) H Q:=⟨i,j,rfl,rfl,h⟩
theorem st_i {C:Int->Int->Prop}{g:Int->Int->V}(c:C i j)(h:Q (g i j) H):rI C g (.int i) (.int j) H Q:=⟨i,j,rfl,rfl,c,h⟩
theorem st_u {g:Int->V}(h:Q (g i) H):rU g (.int i) H Q:=⟨i,rfl,h⟩
theorem st_eqi (h:Q (.bl (decide (i=j))) H):rEq (.int i) (.int j) H Q:=by rw[rEq_i];exact h
theorem st_nei (h:Q (.bl (!decide (i=j))) H):rNe (.int i) (.int j) H Q:=by rw[rNe_i];exact h
theorem st_neb (h:Q (.bl (!decide (p=q))) H):rNe (.bl p) (.bl q) H Q:=by rw[rNe_b];exact h
theorem st_eqs (h:Q (.bl (decide (x=y))) H):rEq (.str x) (.str y) H Q:=by rw[rEq_s];exact h
theorem st_ixT (s:SqT K H a xs)(e:atI xs i=some v)(h:Q v H):rIxT K (.ref a) (.int i) H Q:=⟨a,xs,i,v,rfl,rfl,s,e,h⟩
theorem c8r (s:SqL K H a xs)(e:atI xs i=some v)(h:Q v H):rIxL K (.ref a) (.int i) H Q:=⟨a,xs,i,v,rfl,rfl,s,e,h⟩
theorem st_andN (h:Q (.int ((n&&&m:Nat):Int)) H):rI0 (fun i j=>.int (A2e i j)) (.int (n:Int)) (.int (m:Int)) H Q:=d7a (by rw[a7z];exact h)
theorem st_orN (h:Q (.int ((n|||m:Nat):Int)) H):rI0 (fun i j=>.int (A8g i j)) (.int (n:Int)) (.int (m:Int)) H Q:=d7a (by rw[bitOr_nat];exact h)
theorem st_xorN (h:Q (.int ((n^^^m:Nat):Int)) H):rI0 (fun i j=>.int (A3x i j)) (.int (n:Int)) (.int (m:Int)) H Q:=d7a (by rw[b7z];exact h)
theorem st_bit (h:Q (.int (Tw.bI (n.testBit k))) H):rI0 (fun i j=>.int (A2e i j)) (.int ((n:Int)/2^k)) (.int 1) H Q:=d7a (by rw[bitAnd_bit];exact h)
theorem st_shrN (h:Q (.int (i/2^k)) H):rI (fun _ j=>0<=j) (fun i j=>.int (i/2^j.toNat)) (.int i) (.int (k:Int)) H Q:=st_i (by omega) (by rw[A3t];exact h)
theorem st_shl1 (c:k<=1000)(h:Q (.int ((2^k:Nat):Int)) H):rI CPow (fun i j=>.int (i*2^j.toNat)) (.int 1) (.int (k:Int)) H Q:=st_i (cpow_n c) (by rw[A3t,Int.one_mul,Tw.pow2_cast];exact h)
theorem st_modN (c:0<n)(h:∀k:Nat,i%(n:Int)=(k:Int)->k<n->Q (.int (k:Int)) H):rI (fun _ j=>0<j) (fun i j=>.int (i%j)) (.int i) (.int (n:Int)) H Q:=st_i (by omega) (by
 obtain⟨k,e,l⟩:=Tw.emod_nat i c
 rw[e];exact h k e l)
theorem d3c {c:V}{cv t:Value}(ty:c5j K H v t)(e:A2p K t cv=some p)(h:Q (.bl p) H):rIsi K c cv [v,c] H Q:=⟨v,t,p,rfl,ty,e,h⟩
end
theorem b8w {c:Prop} [Decidable c]{A B:Prop}(h1:c->A)(h2:¬c->B):if decide c=true then A else B:=by
 by_cases h:c
 ·rw[decide_eq_true h];exact iteT (h1 h)
 ·rw[decide_eq_false h];exact iteF (h2 h)
theorem iteN {c:Prop} [Decidable c]{A B:Prop}(h1:¬c->A)(h2:c->B):if (!decide c)=true then A else B:=by
 by_cases h:c
 ·rw[decide_eq_true h];exact iteF (h2 h)
 ·rw[decide_eq_false h];exact iteT (h1 h)
theorem for_range0 {n:Nat}(Pv:Nat->St->Hp->Prop)(h0:Pv 0 σ H)
  (hs:∀i σ H,i<n->Pv i σ H->g (.int (i:Int)) σ H fun σ2 H2=>tb { D with nx:=Pv (i+1),ct:=Pv (i+1),bk:=D.nx } σ2 H2) (hd:∀σ H,Pv n σ H->D.nx σ H) :
  ∃W:Nat->Nat->St->Hp->Prop,(∃m,W 0 m σ H)/\∀i m σ H,W i m σ H->
   ((Itr 0 n).stop i H/\D.nx σ H)\/((Itr 0 n).go i H/\∃N:St->Hp->Prop,(∀σ' H',N σ' H'->∃m',m'<m/\W (i+1) m' σ' H')/\∀x H',(Itr 0 n).yld i H x H'->g x σ H' fun σ2 H2=>tb { D with nx:=N,ct:=N,bk:=D.nx } σ2 H2):=
 for_range Pv h0 (fun i σ H hi hp=>by rw[Int.zero_add];exact hs i σ H hi hp) hd
theorem b1z {n:Nat}(hn:n<=1000000)(e:∀P:V->Hp->Prop,P (.int (n:Int)) H->ta σ H P)(Pv:Nat->St->Hp->Prop)(h0:Pv 0 σ H)
  (hs:∀i σ H,i<n->Pv i σ H->g (.int (i:Int)) σ H fun σ2 H2=>tb { D with nx:=Pv (i+1),ct:=Pv (i+1),bk:=D.nx } σ2 H2) (hd:∀σ H,Pv n σ H->D.nx σ H):tFor (iRng1 (c4p ta tNil)) g tb D σ H:=
 e _ ⟨(n:Int),rfl,by omega,by omega,for_range0 Pv h0 hs hd⟩
theorem iteNT {A B:Prop}(h:B):if (!true)=true then A else B:=iteF h
theorem iteNF {A B:Prop}(h:A):if (!false)=true then A else B:=iteT h
def d4y (env:Env):List (Str×NameKind)->List (Str×Addr)->List (Str×Addr)
 | [],acc=>acc
 | (n,k)::r,acc=>if (k==A2y)=true then d4y env r ((n,(env.cells.lookup n).getD 0)::acc) else d4y env r acc
theorem clGo_eq (env:Env):∀(names:List (Str×NameKind)) (acc:List (Str×Addr)),(∀p∈names,p.2=.free->∃c,env.cells.lookup p.1=some c)->
  (forIn names acc fun x r=>match x with
   | (name,kind)=>if (kind==A2y)=true then (do let a <- cellOf env name;pure (A5z ((name,a)::r)):Sem _) else pure (A5z r))=(pure (d4y env names acc):Sem _)
 | [],_,_=>rfl
 | (n,k)::r,acc,h=>by
  rw[List.forIn_cons]
  by_cases hk:k=A2y
  ·subst hk;obtain⟨c,hc⟩:=h (n,.free) A0d rfl;have e:cellOf env n=pure c:=by unfold cellOf;rw[hc]
   simp only[beq_self_eq_true,if_true,e,pure_bind,d4y,hc,A6u];exact clGo_eq env r _ fun p hp=>h p (A0e _ hp)
  ·have hb:(k==A2y)=false:=by simpa using hk
   simp only[hb,A4x,if_false,pure_bind,d4y];exact clGo_eq env r _ fun p hp=>h p (A0e _ hp)
theorem d2a (h:∀p∈scope.names,p.2=.free->∃c,env.cells.lookup p.1=some c):closureFor scope env=pure (d4y env scope.names []):=by
 unfold closureFor;have e:=clGo_eq env scope.names [] h;dsimp only;rw[e];rfl
theorem b4q (env:Env){y:Str}:∀(names:List (Str×NameKind)) (acc:List (Str×Addr)),(∀p∈names,p.2=.free->∃c,env.cells.lookup p.1=some c)->
  ∀c,(d4y env names acc).lookup y=some c->acc.lookup y=some c\/(env.cells.lookup y=some c)
 | [],_,_,_,e=>.inl e
 | (n,k)::r,acc,h,c,e=>by
  rw[d4y] at e
  by_cases hk:(k==A2y)=true
  ·rw[if_pos hk] at e;have hk':k=A2y:=by simpa using hk
   obtain⟨c',hc'⟩:=h (n,k) A0d hk'
   rcases b4q env r _ (fun p hp=>h p (A0e _ hp)) c e with q|q
   ·rw[A1g] at q
    cases hb:y==n with
    | true=>
     rw[hb] at q;have hb':y=n:=eq_of_beq hb;subst hb';have hc'':env.cells.lookup y=some c':=hc';rw[hc'',A6u] at q;rw[hc''];exact .inr q
    | false=>rw[hb] at q;exact .inl q
   ·exact .inr q
  ·rw[if_neg hk] at e;exact b4q env r _ (fun p hp=>h p (A0e _ hp)) c e
theorem b7r (env:Env){y:Str}:∀(names:List (Str×NameKind)) (acc:List (Str×Addr)),(y,A2y)∈names\/(∃c,acc.lookup y=some c)->∃c,(d4y env names acc).lookup y=some c
 | [],_,h=>h.elim (fun z=>nomatch z) id
 | (n,k)::r,acc,h=>by
  rw[d4y]
  have up:∀v:Addr,(∃c,acc.lookup y=some c)->∃c,((n,v)::acc).lookup y=some c:=fun v ⟨c,e⟩=>by
   rw[A1g]
   cases hb:y==n with
   | true=>exact⟨v,rfl⟩
   | false=>exact⟨c,e⟩
  by_cases hk:(k==A2y)=true
  ·rw[if_pos hk];refine b7r env r _ ?_
   rcases h with h|h
   ·rcases List.mem_cons.mp h with z|z
    ·cases z;exact .inr ⟨(env.cells.lookup y).getD 0,by rw[A1g,beq_self_eq_true]⟩
    ·exact .inl z
   ·exact .inr (up _ h)
  ·rw[if_neg hk];refine b7r env r _ ?_
   rcases h with h|h
   ·rcases List.mem_cons.mp h with z|z
    ·cases z;exact absurd rfl hk
    ·exact .inl z
   ·exact .inr h
def rlb (env:Env)(n:Str)(k:NameKind):NameKind:=if (k==.free&&env.scope.kind==.function&&env.kindOf n==some .cell)=true then .cell else k
theorem b8g (env:Env)(y:Str):∀names:List (Str×NameKind),
  (names.map fun (n,k)=>if (k==A2y&&env.scope.kind==.function&&env.kindOf n==some .cell)=true then (n,A8h) else (n,k)).lookup y=(names.lookup y).map (rlb env y)
 | []=>rfl
 | (n,k)::r=>by
  have e:(if (k==A2y&&env.scope.kind==.function&&env.kindOf n==some .cell)=true then (n,A8h) else (n,k))=(n,rlb env n k):=by
   unfold rlb;split<;>rfl
  rw[A2a];show A4d y ((if (k==A2y&&env.scope.kind==.function&&env.kindOf n==some .cell)=true then (n,A8h) else (n,k))::_)=_;rw[e,A1g,A1g]
  cases hb:y==n with
  | true=>have:=eq_of_beq hb;subst this;rfl
  | false=>exact b8g env y r
theorem a3u (scope:Scope)(env:Env)(y:Str):(relabel scope env).names.lookup y=(scope.names.lookup y).map (rlb env y):=b8g env y scope.names
theorem mem_of_lookup {α β:Type} [BEq α] [LawfulBEq α]{y:α}{k:β}:∀{l:List (α×β)},l.lookup y=some k->(y,k)∈l
 | (n,j)::r,e=>by
  rw[A1g] at e
  cases hb:y==n with
  | true=>rw[hb] at e;have:=eq_of_beq hb;subst this;cases e;exact A0d
  | false=>rw[hb] at e;exact A0e _ (mem_of_lookup e)
structure a7k (sc:Scope)(x:Str)(scope:Scope):Prop where
 kind:scope.kind=.function
 cell:∀y∈scope.names,y.2≠.cell
 own:scope.names.lookup x=some .local
 loc:∀y∈scope.names,y.2=.local->y.1=x\/y.1=(".0":Str)
 nam:∀y∈scope.names,y.2=.local->scope.names.lookup y.1=some .local
 free:∀y∈scope.names,y.2=.free->sc.names.lookup y.1=some .cell\/sc.names.lookup y.1=some .free
 two:∀y∈scope.names,y.2=.free->y.1≠x
def Cx.comp (X:Cx)(M:List Str)(scope:Scope)(x:Str)(C:Addr)(s:Shared)(H:Hp)(ex:List Addr):Cx:=
 { X with N:=x::M,s₀:=s,H₀:=H,env:=compEnvC scope (d4y X.env scope.names []) C X.env,outer:=X.stack,ex:=ex,fn:=fun _=>false,pn:=[],xe:=fun _ _=>False }
section
variable {X:Cx}{M:List Str}{pins:List (Addr×Obj)}{σ:St}{H:Hp}{s:Shared}{scope:Scope}{x:Str}
theorem a7k.has (S:a7k X.env.scope x scope)(ok:X.Ok):∀p∈scope.names,p.2=.free->∃c,X.env.cells.lookup p.1=some c:=fun p hp e=>ok.has p.1 (S.free p hp e)
theorem a7k.cells (S:a7k X.env.scope x scope)(ok:X.Ok){y:Str}{c:Addr}(e:(d4y X.env scope.names []).lookup y=some c):X.env.cells.lookup y=some c:=by
 rcases b4q X.env scope.names [] (S.has ok) c e with z|z
 ·cases z
 ·exact z
theorem a7k.sees (S:a7k X.env.scope x scope)(hy:(relabel scope X.env).names.lookup y≠some .local)(hv:Vis (relabel scope X.env) y):(y,A2y)∈scope.names/\((relabel scope X.env).names.lookup y=some .cell\/(relabel scope X.env).names.lookup y=some .free):=by
 unfold Vis at hv;rw[a3u] at hv ⊢
 cases e:scope.names.lookup y with
 | none=>rw[e] at hv;rcases hv with z|z|z<;>cases z
 | some k=>
  have hm:=mem_of_lookup e;rw[e] at hv
  have hk:k=.free:=by
   by_cases hf:k=.free
   ·exact hf
   ·have hr:rlb X.env y k=k:=by
     unfold rlb;have:(k==A2y)=false:=by simpa using hf
     rw[this];rfl
    rw[A2k,hr] at hv
    rcases hv with z|z|z
    ·rw[a3u,e,A2k,hr] at hy;exact absurd z hy
    ·exact absurd (A0s z) (S.cell _ hm)
    ·exact A0s z
  subst hk;refine⟨hm,?_⟩;rw[A2k];unfold rlb
  split
  ·exact .inl rfl
  ·exact .inr rfl
theorem a7k.ok (S:a7k X.env.scope x scope)(I:Inv X pins σ H s){C:Addr}(hC:s.heap.objs.size<=C){fp:List Addr}(hf:∀b∈fp,FpOk X pins H b)(hl:∀b∈fp,b<s.heap.objs.size):(X.comp M scope x C s H fp).Ok where
 mod:=I.ok.mod
 kind:=S.kind
 glob:=I.ok.glob
 blt:=I.ok.blt
 above:=hC
 inj:=fun y z c e1 e2=>I.ok.inj y z c (S.cells I.ok e1) (S.cells I.ok e2)
 has:=fun y hy=>by
  have hv:Vis (relabel scope X.env) y:=.inr hy
  have hne:(relabel scope X.env).names.lookup y≠some .local:=fun e=>by
   have hy':(relabel scope X.env).names.lookup y=some .cell\/(relabel scope X.env).names.lookup y=some .free:=hy;rw[e] at hy'
   rcases hy' with q|q<;>cases q
  exact b7r X.env scope.names [] (.inl (S.sees hne hv).1)
 cab:=fun _ _ z=>nomatch z
 hd:=I.ok.hd
 frames:=I.ok.frames
 stk:=.inl rfl
 exf:=fun b hb=>⟨fun z=>by
   have h1:=hl b hb;have z':b=C:=z;rw[z'] at h1
   exact Nat.not_le.mpr h1 hC,fun y c e=>(hf b hb).2.2.2.2.1 y c (S.cells I.ok e)⟩
 bs:=I.bs
 bsz:=A1z I.ok.bsz I.sz
 noex:=fun b o e hb=>by
  rcases (hf b hb).2.2.2.1 with z|z
  ·exact I.ok.noex b o e z
  ·have h1:=A0y e;have h2:=I.ok.bsz;exact absurd (A0c (A0c h1 h2) z) (A2z _)
 exfs:=fun b hb z=>by
  rcases List.mem_cons.mp (I.stkSub b z) with q|q
  ·exact(hf b hb).2.1 q
  ·exact(hf b hb).2.2.1 q
 funs:=I.stack
 frf:=I.stkFree
theorem a7k.inv (S:a7k X.env.scope x scope)(hx:x∉M)(h0:(".0":Str)∉M)(hlen:M.length=X.N.length)(hM:∀(j:Nat) y,M[j]? = some y->X.N[j]? = some y\/scope.names.lookup y=none)(I:Inv X pins σ H s){C:Addr}(hC:s.heap.objs.size<=C){fp:List Addr}(hf:∀b∈fp,FpOk X pins H b)(hl:∀b∈fp,b<s.heap.objs.size){h1:Heap}{t1:Nat}
  (old:∀b o,s.heap.get? b=some o->h1.get? b=some o) {m:Str->Option Value} (ns:h1.Ns C m):Inv (X.comp M scope x C s H fp) [] (none::σ) H { s with heap:=h1,toks:=t1 } where
 ok:=S.ok I hC hf hl
 os:=rfl
 bare:=I.bare
 base:=Un.kept old
 loc:=by
  refine⟨m,ns,fun i y v e1 e2 hv=>?_⟩
  cases i with
  | zero=>cases e2
  | succ j=>
   have e1':M[j]? = some y:=by simpa[Cx.comp] using e1
   have e2':σ[j]? = some (some v):=by simpa using e2
   by_cases hy:(relabel scope X.env).names.lookup y=some .local
   ·exfalso;rw[a3u] at hy
    cases e:scope.names.lookup y with
    | none=>rw[e] at hy;cases hy
    | some k=>
     rw[e,A2k] at hy
     have hk:k=.local:=by
      have hy':=A0s hy;unfold rlb at hy'
      split at hy'
      ·cases hy'
      ·exact hy'
     rcases S.loc _ (mem_of_lookup e) hk with z|z
     ·have z':y=x:=z;subst z';exact hx (List.mem_of_getElem? e1')
     ·have z':y=(".0":Str):=z;subst z';exact h0 (List.mem_of_getElem? e1')
   ·obtain⟨hm,hk⟩:=S.sees hy hv;obtain⟨m0,_,hl0⟩:=I.loc;have hx0:Vis X.env.scope y:=.inr (S.free _ hm rfl)
    have e1':X.N[j]? = some y:=by
     rcases hM j y e1' with z|z
     ·exact z
     ·exfalso;unfold Vis at hv;have hv':(relabel scope X.env).names.lookup y=some .local\/(relabel scope X.env).names.lookup y=some .cell\/(relabel scope X.env).names.lookup y=some .free:=hv;rw[a3u,z] at hv'
      rcases hv' with q|q|q<;>cases q
    obtain⟨u,r,l⟩:=hl0 j y v e1' e2' hx0;refine⟨u,r,.inr ⟨hk,?_⟩⟩;obtain⟨c,hc⟩:=b7r X.env scope.names [] (.inl hm);refine⟨c,hc,?_⟩;have hc0:=S.cells I.ok hc
    rcases l with ⟨k0,_⟩|⟨_,c0,e0,q0⟩
    ·rcases S.free _ hm rfl with z|z
     ·have k0':X.env.scope.names.lookup y=some .local:=k0;rw[z] at k0';cases k0'
     ·have k0':X.env.scope.names.lookup y=some .local:=k0;rw[z] at k0';cases k0'
    ·rw[hc0] at e0;cases e0;obtain⟨o,ho,hd⟩:=q0;exact⟨o,old _ _ ho,hd⟩
 cell:=fun y c e=>by
  obtain⟨v,o,ho,hd⟩:=I.cell y c (S.cells I.ok e);exact⟨v,o,old _ _ ho,hd⟩
 free:=I.hok.fresh hC
 freeC:=fun y c e=>I.freeC y c (S.cells I.ok e)
 pin:=fun p hp=>by cases hp
 hok:=I.hok.kept old
 len:=by simp[Cx.comp,I.len,hlen]
end
def PIfs (X:Cx)(ifs:List Expr)(t:TT):Prop:=
 ∀(pins:List (Addr×Obj)) (s:Shared) (σ:St) (H:Hp) (Q:Bool->Hp->Prop),Inv X pins σ H s->t σ H Q->
  wpAny (model X.prog X.w) X.A (forIn ifs true fun c r=>if r=true then do let ok <- isTrue c X.env (eval c X.env);pure (A5z ok) else pure (A5z r)) (TP X pins σ Q) X.xe s
def tYes:TT:=fun _ H Q=>Q true H
theorem a2q :PIfs X [] tYes:=fun _ _ _ H _ I h=>wpAny_tests_nil ⟨H,I,h⟩
theorem pif_one {c:Expr}{t:TT}(h:PT X c t):PIfs X [c] t:=fun pins s σ H Q I q=>wpAny_tests_one (h pins s σ H Q I q)
theorem c3r {prog:Program}{R:Result->Shared->Prop}{elt target iter:Expr}{ifs:List Expr}{scope:Scope}{pos:Pos}{it acc:Value}(I:Nat->Shared->Prop)
  (turn:∀n s,I n s->wpAny (model prog w) A (pyNext it) (fun r s₁=>match r with
   | none=>R (.ok .next) s₁
   | some v=>wpAny (model prog w) A (letOwnedTupleGo target it v) (fun _ s₀=>wpAny (model prog w) A (assign target env v) (fun _ s₂=>
     wpAny (model prog w) A (forIn ifs true fun c r=>if r=true then do let ok <- isTrue c env (eval c env);pure (A5z ok) else pure (A5z r)) (fun ok s₃=>
      if ok=true then wpAny (model prog w) A (eval elt env) (fun x s₄=>
       wpAny (model prog w) A (call (.builtin "list.append") [acc,x]) (fun _ s₅=>∃m,m<n/\I m s₅) (fun _ _=>False) s₄) (fun _ _=>False) s₃
      else ∃m,m<n/\I m s₃) (fun _ _=>False) s₂) (fun _ _=>False) s₀) (fun _ _=>False) s₁) (fun _ _=>False) s)
  (n:Nat) (h:I n s):codeAny (model prog w) A (.compLoop (.ListComp elt [⟨target,iter,ifs,0⟩] scope pos) 0 it acc env) R s:=by
 refine codeAny_loop rfl I (fun n s hI=>?_) n h;show wpAny _ A ((compTurn (.ListComp elt [⟨target,iter,ifs,0⟩] scope pos) 0 it acc env).onRaise (fun x=>do noteFrame x env;theTreesLotGoes x)) _ _ s;refine wpAny_noted ?_;rw[compTurn_list];refine A0n (wpAny_standAt (A0n (A2u (turn n s hI) (fun r s₁ h₁=>?_) fun _ _ h'=>h'.elim)))
 cases r with
 | none=>exact A1e h₁
 | some v=>
  refine A0n (A2u h₁ (fun _ s₀ h₀=>?_) fun _ _ h'=>h'.elim);refine A0n (A2u h₀ (fun _ s₂ h₂=>A0n (A2u h₂ (fun ok s₃ h₃=>?_) fun _ _ h'=>h'.elim)) fun _ _ h'=>h'.elim)
  cases ok with
  | false=>exact A1e ⟨rfl,h₃⟩
  | true=>
   exact A0n (A0n (A2u h₃ (fun x s₄ h₄=>A0n (A2u h₄ (fun _ s₅ h₅=>A1e (A1e ⟨rfl,h₅⟩)) fun _ _ h'=>h'.elim)) fun _ _ h'=>h'.elim))
def d0t (wi:TI)(tt:TT)(te:TE):TE:=fun σ H Q=>wi σ H fun J H1=>∃W:Nat->Nat->List V->Hp->Prop,(∃m,W 0 m [] H1)/\∀i m ys H,W i m ys H->
 (J.stop i H/\∀p,H p=none->Q (.ref p) (upd H p (.lst ys)))\/
 (J.go i H/\ys.length<sizeLine/\∃N:List V->Hp->Prop,(∀ys' H',N ys' H'->∃m',m'<m/\W (i+1) m' ys' H')/\
  ∀x H',J.yld i H x H'->tt (some x::σ) H' fun b H2=>if b=true then te (some x::σ) H2 fun y H3=>N (ys++[y]) H3 else N ys H2)
section
variable {X:Cx}{M:List Str}{scope:Scope}{x:Str}{px pos:Pos}{elt iter:Expr}{ifs:List Expr}{wi:TI}{tt:TT}{te:TE}
theorem c7h {use:Option (Value->Sem Unit)}{QQ:Value->Shared->Prop}{pins:List (Addr×Obj)}{cpos:Pos}(hsc:X.env.scope=sc)(S:a7k sc x scope)(hx:x∉M)(h0:(".0":Str)∉M)(hN:M.Nodup)(hlen:M.length=X.N.length)(hM:∀(j:Nat) y,M[j]? = some y->X.N[j]? = some y\/scope.names.lookup y=none)(hc:X.calm=true)(hi:PI X (.Name x px) iter wi)
  (ht:∀C s H ex,PIfs (X.comp M scope x C s H ex) ifs tt) (he:∀C s H ex,PE (X.comp M scope x C s H ex) elt te) (I:Inv X pins σ H s) (h:d0t wi tt te σ H Q)
  (fin:∀(D C:Addr) (s4:Shared) (H4:Hp),C≠X.env.locals->(∀y c,X.env.cells.lookup y=some c->c≠C)->(∀p∈X.pn++pins,p.1≠C)->X.s₀.heap.objs.size<=C->H4 C=none->(∃m,s4.heap.Ns C m)->
   (∀h',A5h C s4.heap h'->Inv X pins σ H4 { s4 with heap:=h' })->Q (.ref D) H4->compPost (model X.prog X.w) X.A X.xe use QQ (.ref D) C (.ok .next) s4)
  (hs:∀v,foldedSetIterable iter X.env v=pure v) :
  wpAny (model X.prog X.w) X.A (comprehension (.ListComp elt [⟨.Name x px,iter,ifs,0⟩] scope pos) scope X.env cpos (newList []) false (eval iter X.env) use) QQ X.xe s:=by
 subst hsc;have hnames:=S.nam;refine wpAny_comprehension_free (use:=use) rfl hs (d2a (S.has I.ok)) S.kind hnames (thn (hi pins s σ H _ I h) fun v s1 h1=>thn h1 fun itv s2 h2=>?_);obtain⟨it,fp,tn,J,H2,e,I2,T,st2,f2,W,⟨m0,w0⟩,turn⟩:=h2;subst e;refine A5f (wpAny_newFunctionEnv S.cell (by intro y hy;simp at hy) (fun h₁ hns₁ hsb₁=>?_) S.kind);dsimp only at hns₁ hsb₁ ⊢;generalize hG:s2.heap.push { cls:=.type "list",dict:=none,data:=.seq ([]:List Value).toArray }=G at hns₁ hsb₁ ⊢;have hC:G.objs.size=s2.heap.objs.size+1:=by rw[<- hG,A4p]
 have hDC:s2.heap.objs.size≠G.objs.size:=by omega
 have below:∀b,b<s2.heap.objs.size->b≠G.objs.size/\b≠s2.heap.objs.size:=fun b hb=>⟨by omega,by omega⟩;have old:∀b o,s2.heap.get? b=some o->h₁.get? b=some o:=fun b o e=>hsb₁.extBut b o (below b (A0y e)).1 (Heap.get?_push_of_some _ (hG▸Heap.get?_push_of_some _ e));have hacc:h₁.get? s2.heap.objs.size=some { cls:=.type "list",data:=.seq ([]:List Value).toArray }:=hsb₁.extBut _ _ hDC (Heap.get?_push_of_some _ (hG▸Heap.get?_push_size _ rfl))
 have hlt:∀b∈fp,b<s2.heap.objs.size:=fun b hb=>by
  obtain⟨o,e,_⟩:=T.obj _ _ st2 b hb;exact A0y e
 have ctop:∀y c,(d4y X.env scope.names []).lookup y=some c->c<s2.heap.objs.size:=fun y c e=>by
  obtain⟨v,q⟩:=I2.cell y c (S.cells I2.ok e);exact q.lt
 have hCle:s2.heap.objs.size<=G.objs.size:=by omega
 have IY:∀t1,Inv (X.comp M scope x G.objs.size s2 H2 fp) [] (none::σ) H2 { s2 with heap:=h₁,toks:=t1 }:=fun t1=>S.inv hx h0 hlen hM I2 hCle f2 hlt old hns₁
 have nost:∀b,s2.heap.objs.size<=b->b∉frs X.stack:=fun b hb z=>by
  rcases List.mem_cons.mp (I2.stkSub b z) with q|q
  ·exact Nat.not_le.mpr I2.lt (q▸hb)
  ·exact I2.nofs hb q
 have hD:s2.heap.objs.size∉frs X.stack:=nost _ (A0k _)
 have ptop:∀{pl:List (Addr×Obj)} {H':Hp},(∀b∈fp,H' b=none)->(∀p∈pl,p.1∉fp)->∀b∈fp,FpOk (X.comp M scope x G.objs.size s2 H2 fp) pl H' b:=fun {pl H'} hn hp b hb=>
  ⟨hn b hb,fun z=>(below b (hlt b hb)).1 z,fun z=>(S.ok I2 hCle f2 hlt).exfs b hb z,.inl hb,fun y c e=>(f2 b hb).2.2.2.2.1 y c (S.cells I2.ok e),fun p hp' z=>hp p hp' (z▸hb)⟩
 have Dfp:s2.heap.objs.size∉fp:=fun z=>A2z _ (hlt _ z)
 have loop:∀t1,codeAny (model X.prog X.w) X.A (.compLoop (.ListComp elt [⟨.Name x px,iter,ifs,0⟩] scope pos) 0 (.ref it) (.ref s2.heap.objs.size) (compEnvC scope (d4y X.env scope.names []) G.objs.size X.env))
   (compPost (model X.prog X.w) X.A X.xe use QQ (.ref s2.heap.objs.size) G.objs.size) { s2 with heap:=h₁,toks:=t1 }:=by
  intro t1
  refine c3r (fun n s'=>∃i o H' ys its k,Inv (X.comp M scope x G.objs.size s2 H2 fp) [(s2.heap.objs.size,{ cls:=.type "list",data:=.seq its k })] (o::σ) H' s'/\tn i s'.heap/\(∀b∈fp,H' b=none)/\a5q ys its.toList/\ys.length<=sizeLine/\W i n ys H')
   ?_ m0 ⟨0,none,H2,[],#[],0,?_,T.keep _ _ _ st2 fun b _ o e=>old b o e,fun b hb=>(f2 b hb).1,.nil,A1v _,w0⟩
  ·rintro n s3 ⟨i,o,H3,ys,its,k,I3,st3,fr3,vs3,z3,w3⟩
   have pD:∀p∈[(s2.heap.objs.size,({ cls:=.type "list",data:=.seq its k }:Obj))],p.1∉fp:=fun p hp=>by
    have e:p=_:=List.mem_singleton.mp hp;subst e;exact Dfp
   rcases turn i n ys H3 w3 with ⟨stop,qn⟩|⟨go,hz,N,hN',step⟩
   ·refine A2u (T.done (X.comp M scope x G.objs.size s2 H2 fp) rfl rfl rfl hc i _ s3 (o::σ) H3 (fun _ _=>False) I3 (ptop fr3 pD) st3 stop) (fun r s4 ⟨hr,I4⟩=>?_) fun _ _ f=>f;subst hr;obtain⟨m4,hn4,_⟩:=I4.loc;obtain⟨eD,nD,_⟩:=I4.pin _ (List.mem_singleton.mpr rfl);have nC:H3 G.objs.size=none:=I4.free;refine fin s2.heap.objs.size G.objs.size s4 (upd H3 s2.heap.objs.size (.lst ys)) (fun z=>Nat.not_le.mpr I2.lt (z▸hCle)) (fun y c e z=>?_) (fun p hp z=>?_) (A1z I2.sz hCle) (by rw[a0w (A4m hDC)];exact nC) ⟨m4,hn4⟩ (fun h' hs'=>?_) (qn _ nD)
    ·obtain⟨v,q⟩:=I2.cell y c e;exact Nat.not_le.mpr q.lt (z▸hCle)
    ·exact Nat.not_le.mpr (A0y (I2.pin p hp).1) (z▸hCle)
    have eD':h'.get? s2.heap.objs.size=some { cls:=.type "list",data:=.seq its k }:=hs'.extBut _ _ hDC eD;have stp:∀b o,s2.heap.get? b=some o->b≠G.objs.size/\b≠s2.heap.objs.size:=fun b o e=>below b (A0y e)
    have un:Un (frs X.stack) fp H2 (upd H3 s2.heap.objs.size (.lst ys)) s2.heap h':=by
     have B:=I4.base;refine⟨fun b o e n1 n2 n3=>hs'.extBut _ _ (stp b o e).1 (B.keep b o e n1 n2 n3),fun b o e n1 n2 n3=>?_,fun b o e n1 n3=>?_,fun b o e n3=>?_,fun b xs e=>?_,fun b o u e=>?_,fun b ps e=>?_⟩
     ·obtain⟨sl,q⟩:=B.slot b o e n1 n2 n3;exact⟨sl,hs'.extBut _ _ (stp b o e).1 q⟩
     ·rw[a0w (stp b o e).2];exact B.free b o e n1 n3
     ·obtain⟨o',q⟩:=B.there b o e n3;exact⟨o',hs'.extBut _ _ (stp b o e).1 q⟩
     ·have q:=B.tups b xs e;rw[a0w (a0j q nD)];exact q
     ·have q:=B.frzs b o u e;rw[a0w (a0j q nD)];exact q
     ·obtain⟨more,q⟩:=B.tbls b ps e;exact⟨more,by rw[a0w (a0j q nD)];exact q⟩
    have hok:HOk X.prog X.w (upd H3 s2.heap.objs.size (.lst ys)) h':=fun b u e=>by
     by_cases hb:b=s2.heap.objs.size
     ·subst hb;rw[a0d] at e;cases e;exact⟨z3,its.toList,k,vs3,by simpa using eD'⟩
     ·rw[a0w hb] at e;refine(I4.hok b u e).stay (fun c v hc' q=>hs'.extBut _ _ (fun z=>?_) q) (fun c q=>by rw[a0w (a0j q nD)];exact q) fun c xs q=>by rw[a0w (a0j q nD)];exact q
      rcases hc' with r|r
      ·rw[r] at z;rw[z,nC] at e;cases e
      ·rw[z,nC] at r;cases r
    refine I2.call' (s':={ s4 with heap:=h' }) I4.os un hok I4.bare (fun b hb=>?_);obtain⟨f0,f1,f2',f3,f4,f5⟩:=f2 b hb;exact⟨f3,f1,f4,f5⟩
   ·refine A2u (T.item (X.comp M scope x G.objs.size s2 H2 fp) rfl rfl rfl hc i _ s3 (o::σ) H3 (fun _ _=>False) I3 (ptop fr3 pD) st3 go) (fun r s4 ⟨u,hr,h4⟩=>?_) fun _ _ f=>f;subst hr;refine A2u h4 (fun _ s5 ⟨v5,H5,I5,r5,y5,st5,fr5⟩=>?_) fun _ _ f=>f;have I5':=I5.pinned (ptop fr5 pD) (T.obj _ _ st5);have hnd:(X.comp M scope x G.objs.size s2 H2 fp).N.Nodup:=List.nodup_cons.mpr ⟨hx,hN⟩;have hloc:(relabel scope X.env).names.lookup x=some .local:=lookup_relabel_local S.own;refine A2u (a1g (X:=X.comp M scope x G.objs.size s2 H2 fp) (i:=0) (pos:=px) hnd rfl (.inl hloc) (.inr hloc) _ s5 (o::σ) H5 v5 u (fun σ6 H6=>σ6=some v5::σ/\H6=H5) I5' r5 ⟨rfl,rfl⟩) (fun _ s6 ⟨σ6,H6,I6,e6,e6'⟩=>?_) fun _ _ f=>f;subst e6 e6'
    have later:∀{σ7:St} {H7:Hp} {s7:Shared},Inv (X.comp M scope x G.objs.size s2 H2 fp) ([(s2.heap.objs.size,{ cls:=.type "list",data:=.seq its k })]++d2k fp s5.heap) σ7 H7 s7->tn (i+1) s7.heap/\(∀b∈fp,H7 b=none):=fun {σ7 H7 s7} I7=>
     ⟨T.keep _ _ _ st5 fun b hb o e=>(I7.pin (b,o) (A0v _ (A0v _ (b0e hb e)))).1,fun b hb=>by
      obtain⟨o,e,d⟩:=T.obj _ _ st5 b hb
      exact(I7.pin (b,o) (A0v _ (A0v _ (b0e hb e)))).2.1⟩
    refine A2u (ht _ _ _ _ _ s6 (some v5::σ) H6 _ I6 (step v5 H6 y5)) (fun ok s7 ⟨H7,I7,q7⟩=>?_) fun _ _ f=>f
    cases ok with
    | false=>
     obtain⟨m',hm,w7⟩:=hN' _ _ q7;exact⟨m',hm,i+1,some v5,H7,ys,its,k,I7.unpinned,(later I7).1,(later I7).2,vs3,z3,w7⟩
    | true=>
     refine A2u (he _ _ _ _ _ s7 (some v5::σ) H7 _ I7 q7) (fun uy s8 ⟨y8,H8,I8,r8,q8⟩=>?_) fun _ _ f=>f;obtain⟨m',hm,w8⟩:=hN' _ _ q8;obtain⟨eD,nD,_⟩:=I8.pin (s2.heap.objs.size,{ cls:=.type "list",data:=.seq its k }) (A0v _ (A2g _ (List.mem_singleton.mpr rfl)))
     have hsz:its.size<=sizeLine:=by
      have:=vs3.length;have e2:its.toList.length=its.size:=by simp
      omega
     refine wpAny_list_append_plain (hsz:=hsz) ⟨k,eD⟩ fun h9 pl9 sb9=>?_;obtain⟨k9,e9⟩:=pl9;obtain⟨st8,fr8⟩:=later I8;have I8':Inv (X.comp M scope x G.objs.size s2 H2 fp) [] (some v5::σ) H8 s8:=I8.pins_of fun p hp=>nomatch hp
     have I9:Inv (X.comp M scope x G.objs.size s2 H2 fp) [] (some v5::σ) H8 { s8 with heap:=h9 }:=
      I8'.turned (t':=s8.toks) (fun b o hb e=>sb9.extBut b o hb e) nD hDC (.inr (A0k _)) (fun y c e z=>by have:=ctop y c e;rw[z] at this;exact A2z _ this) fun p hp=>nomatch hp
     refine⟨m',hm,i+1,some v5,H8,ys++[y8],its.push uy,k9,I9.pins_of fun p hp=>?_,T.keep _ _ _ st8 fun b hb o e=>sb9.extBut b o (fun z=>Dfp (z▸hb)) e,fr8,?_,?_,w8⟩
     ·have e:p=_:=List.mem_singleton.mp hp;subst e;exact⟨e9,nD,hDC,hD,fun v z=>by cases z⟩
     ·rw[Array.toList_push];exact vs3.append (.cons r8 .nil)
     ·rw[A0j,A3e];omega
  ·refine(IY t1).pins_of fun p hp=>?_;have e:p=_:=List.mem_singleton.mp hp;subst e;exact⟨hacc,I2.hok.fresh (A0k _),hDC,hD,fun v z=>by cases z⟩
 exact codeAny_compStart_list (loop _) (T.self _ 0 _ _ _ (T.keep _ _ _ st2 fun b _ o e=>old b o e) (loop _))
theorem a3d (hsc:X.env.scope=sc)(S:a7k sc x scope)(hx:x∉X.N)(h0:(".0":Str)∉X.N)(hN:X.N.Nodup)(hc:X.calm=true)(hi:PI X (.Name x px) iter wi)
  (ht:∀C s H ex,PIfs (X.comp X.N scope x C s H ex) ifs tt) (he:∀C s H ex,PE (X.comp X.N scope x C s H ex) elt te) (hs:∀v,foldedSetIterable iter X.env v=pure v:=by intro _;rfl) :
  PE X (.ListComp elt [⟨.Name x px,iter,ifs,0⟩] scope pos) (d0t wi tt te):=by
 intro pins s σ H Q I h;rw[eval_ListComp];exact c7h (use:=none) (M:=X.N) hsc S hx h0 hN rfl (fun _ _ e=>.inl e) hc hi ht he I h (fun D C s4 H4 _ _ _ _ _ hn inv q=>let ⟨m,hn⟩:=hn;⟨m,hn,fun h' hs'=>⟨.ref D,H4,inv h' hs',rfl,q⟩⟩) hs
theorem zip_or {scope:Scope}:∀{M N:List Str},(M.zip N).all (fun p=>p.1==p.2||(scope.names.lookup p.1).isNone)=true->M.length=N.length->∀(j:Nat) y,M[j]? = some y->N[j]? = some y\/scope.names.lookup y=none
 | [],_,_,_,j,y,e=>by simp at e
 | _::_,[],_,hl,_,_,_=>by cases hl
 | m::M,n::N,h,hl,0,y,e=>by
  have e':m=y:=A0s e;subst e';rw[List.zip_cons_cons,A5m,A2h,Bool.or_eq_true] at h
  rcases h.1 with z|z
  ·exact .inl (by rw[show n=m from (eq_of_beq z).symm];rfl)
  ·exact .inr (Option.isNone_iff_eq_none.mp z)
 | m::M,n::N,h,hl,j+1,y,e=>by
  rw[List.zip_cons_cons,A5m,A2h] at h;exact zip_or h.2 (B0t hl) j y e
theorem pe_compS (M N0:List Str)(hN0:X.N=N0)(hsc:X.env.scope=sc)(S:a7k sc x scope)(hx:x∉M)(h0:(".0":Str)∉M)(hN:M.Nodup)(hlen:M.length=N0.length)(hM:(M.zip N0).all (fun p=>p.1==p.2||(scope.names.lookup p.1).isNone)=true)(hc:X.calm=true)(hi:PI X (.Name x px) iter wi)
  (ht:∀C s H ex,PIfs (X.comp M scope x C s H ex) ifs tt) (he:∀C s H ex,PE (X.comp M scope x C s H ex) elt te) (hs:∀v,foldedSetIterable iter X.env v=pure v:=by intro _;rfl) :
  PE X (.ListComp elt [⟨.Name x px,iter,ifs,0⟩] scope pos) (d0t wi tt te):=by
 subst hN0;intro pins s σ H Q I h;rw[eval_ListComp];exact c7h (use:=none) (M:=M) hsc S hx h0 hN hlen (zip_or hM hlen) hc hi ht he I h (fun D C s4 H4 _ _ _ _ _ hn inv q=>let ⟨m,hn⟩:=hn;⟨m,hn,fun h' hs'=>⟨.ref D,H4,inv h' hs',rfl,q⟩⟩) hs
theorem ps_setC {i:Nat}{py spos:Pos}(hi':X.N[i]? = some y)(hy:Loc X.env.scope y)(hsc:X.env.scope=sc)(S:a7k sc x scope)(hx:x∉X.N)(h0:(".0":Str)∉X.N)(hN:X.N.Nodup)(hc:X.calm=true)(hi:PI X (.Name x px) iter wi)
  (ht:∀C s H ex,PIfs (X.comp X.N scope x C s H ex) ifs tt) (he:∀C s H ex,PE (X.comp X.N scope x C s H ex) elt te) (hs:∀v,foldedSetIterable iter X.env v=pure v:=by intro _;rfl)
  (hsw:swapsWith (.ListComp elt [⟨.Name x px,iter,ifs,0⟩] scope pos) (some (.Name y py)) spos.line X.env=pure true:=by rfl)
  (hf:X.fn y=true\/X.env.scope.names.lookup y=some .local:=by first|exact .inl rfl|exact .inr rfl|assumption) :
  PS X (.Assign [.Name y py] (.ListComp elt [⟨.Name x px,iter,ifs,0⟩] scope pos) spos) (tAsg (d0t wi tt te) (gName i)):=by
 intro pins s σ H D I h;rw[exec_Assign_Name_used _ _ _ _ hsw];refine A0n (wpAny_standAt (A0n ?_));show wpAny _ X.A (do let _ <- comprehension (.ListComp elt [⟨.Name x px,iter,ifs,0⟩] scope pos) scope X.env _ (newList []) false (eval iter X.env) (some (assign (.Name y py) X.env))) _ _ s;refine A0n (A2u (c7h (use:=some (assign (.Name y py) X.env)) (QQ:=fun _ s'=>SP X pins D .next s') (M:=X.N) hsc S hx h0 hN rfl (fun _ _ e=>.inl e) hc hi ht he I h (fun D' C s4 H4 c1 c2 c3 c4 c5 hn inv q=>?_) hs) (fun _ s' hq=>A1e (A1e hq)) fun _ _ e=>e);obtain⟨m,hn⟩:=hn;show wpAny _ X.A (assign (.Name y py) X.env (.ref D')) _ _ s4;refine wpAny_assign_Name (store_ok2 (v:=.ref D') (inv s4.heap (.refl ..)) hN hi' hy rfl (fun s5 I5 ⟨a,sb,ha⟩=>?_) hf)
 have hCa:C≠a:=by
  rcases ha with r|r
  ·rw[r];exact c1
  ·exact fun z=>c2 _ _ r z.symm
 exact⟨m,hn.sameBut sb hCa,fun h' hs'=>⟨_,H4,I5.turned (t':=s5.toks) (fun b o hb e=>hs'.extBut b o hb e) c5 c1 (.inr c4) c2 c3,q⟩⟩
end
theorem comp_range {n:Nat}(Pv:Nat->List V->Hp->Prop)(hn:n<=1000)(h0:Pv 0 [] H)(hl:∀i ys H,Pv i ys H->ys.length<=i)
  (hs:∀i ys H,i<n->Pv i ys H->tt (some (.int (i:Int))::σ) H fun b H2=>if b=true then te (some (.int (i:Int))::σ) H2 fun y H3=>Pv (i+1) (ys++[y]) H3 else Pv (i+1) ys H2)
  (hd:∀ys H,Pv n ys H->∀p,H p=none->Q (.ref p) (upd H p (.lst ys))) :
  ∃W:Nat->Nat->List V->Hp->Prop,(∃m,W 0 m [] H)/\∀i m ys H,W i m ys H->((Itr 0 n).stop i H/\∀p,H p=none->Q (.ref p) (upd H p (.lst ys)))\/
   ((Itr 0 n).go i H/\ys.length<sizeLine/\∃N:List V->Hp->Prop,(∀ys' H',N ys' H'->∃m',m'<m/\W (i+1) m' ys' H')/\
    ∀x H',(Itr 0 n).yld i H x H'->tt (some x::σ) H' fun b H2=>if b=true then te (some x::σ) H2 fun y H3=>N (ys++[y]) H3 else N ys H2):=by
 refine⟨fun i m ys H=>m=n-i/\i<=n/\Pv i ys H,⟨n,by simp,A1v _,h0⟩,?_⟩;rintro i m ys H ⟨rfl,hi,p⟩
 by_cases hlt:i<n
 ·refine .inr ⟨hlt,a3n (by have:=hl i ys H p;omega),Pv (i+1),fun ys' H' p'=>⟨n-(i+1),by omega,rfl,hlt,p'⟩,fun x H' y=>?_⟩;obtain⟨e,y⟩:=y;subst e y;rw[Int.zero_add];exact hs i ys _ hlt p
 ·have e:i=n:=by omega
  subst e;exact .inl ⟨A0k _,hd ys H p⟩
theorem b4j {n:Nat}(hn:n<=1000)(e:∀P:V->Hp->Prop,P (.int (n:Int)) H->ta σ H P)(Pv:Nat->List V->Hp->Prop)(h0:Pv 0 [] H)(hl:∀i ys H,Pv i ys H->ys.length<=i)
  (hs:∀i ys H,i<n->Pv i ys H->tt (some (.int (i:Int))::σ) H fun b H2=>if b=true then te (some (.int (i:Int))::σ) H2 fun y H3=>Pv (i+1) (ys++[y]) H3 else Pv (i+1) ys H2)
  (hd:∀ys H,Pv n ys H->∀p,H p=none->Q (.ref p) (upd H p (.lst ys))):d0t (iRng1 (c4p ta tNil)) tt te σ H Q:=
 e _ ⟨(n:Int),rfl,by omega,by omega,comp_range Pv hn h0 hl hs hd⟩
theorem comp_tup (Pv:Nat->List V->Hp->Prop)(hn:xs.length<=1000)(h0:Pv 0 [] H)(hl:∀i ys H,Pv i ys H->ys.length<=i)(hk:∀i ys H,Pv i ys H->SqT K H a xs)
  (hs:∀i x ys H,xs[i]? = some x->Pv i ys H->tt (some x::σ) H fun b H2=>if b=true then te (some x::σ) H2 fun y H3=>Pv (i+1) (ys++[y]) H3 else Pv (i+1) ys H2)
  (hd:∀ys H,Pv xs.length ys H->∀p,H p=none->Q (.ref p) (upd H p (.lst ys))) :
  ∃W:Nat->Nat->List V->Hp->Prop,(∃m,W 0 m [] H)/\∀i m ys H,W i m ys H->((Itt K a).stop i H/\∀p,H p=none->Q (.ref p) (upd H p (.lst ys)))\/
   ((Itt K a).go i H/\ys.length<sizeLine/\∃N:List V->Hp->Prop,(∀ys' H',N ys' H'->∃m',m'<m/\W (i+1) m' ys' H')/\
    ∀x H',(Itt K a).yld i H x H'->tt (some x::σ) H' fun b H2=>if b=true then te (some x::σ) H2 fun y H3=>N (ys++[y]) H3 else N ys H2):=by
 refine⟨fun i m ys H=>m=xs.length-i/\i<=xs.length/\Pv i ys H,⟨xs.length,by simp,A1v _,h0⟩,?_⟩;rintro i m ys H ⟨rfl,hi,p⟩
 by_cases hlt:i<xs.length
 ·refine .inr ⟨⟨xs,xs[i],hk i ys H p,by simp[hlt]⟩,a3n (by have:=hl i ys H p;omega),Pv (i+1),fun ys' H' p'=>⟨xs.length-(i+1),by omega,rfl,hlt,p'⟩,fun x H' y=>?_⟩;obtain⟨e,y⟩:=y;subst e;exact hs i x ys _ (y xs (hk i ys _ p)) p
 ·have e:i=xs.length:=by omega
  subst e;exact .inl ⟨⟨xs,hk _ ys H p,A0k _⟩,hd ys H p⟩
def rBitLen:V->List V->Hp->VK->Prop:=fun x vs H Q=>∃i,x=.int i/\vs=[]/\Q (.int (A1f i:Nat)) H
theorem b4r :MtR X "int.bit_length" rBitLen:=by
 intro pins s σ H x xs v us Q I rx rs h;obtain⟨i,rfl,rfl,q⟩:=h;obtain⟨t,rfl⟩:=rx;cases rs;exact call_int_bit_length ⟨.int _,H,I.tok _,⟨_,rfl⟩,q⟩
end L2
namespace Tw
def plc (n:Nat):Nat->List Nat
 | 0=>[]
 | k+1=>if n.testBit k then plc n k++[k] else plc n k
theorem c3f (n:Nat):∀k,(plc n k).length=cnt n.testBit k
 | 0=>rfl
 | k+1=>by
  rw[plc,cnt];cases h:n.testBit k
  ·simp[c3f n k]
  ·simp[c3f n k]
theorem d3a (n:Nat):∀k,∀x∈plc n k,x<k
 | 0,x,h=>by simp[plc] at h
 | k+1,x,h=>by
  rw[plc] at h;cases e:n.testBit k
  ·rw[e] at h;have:=d3a n k x (by simpa using h);omega
  ·rw[e] at h;have h':x∈plc n k\/x=k:=by simpa using h
   rcases h' with z|z
   ·have:=d3a n k x z;omega
   ·omega
theorem plc_up (n:Nat):∀k,(plc n k).Pairwise (· < ·)
 | 0=>A7p
 | k+1=>by
  rw[plc];cases e:n.testBit k
  ·simpa using plc_up n k
  ·simp only[if_true];rw[A6n];refine⟨plc_up n k,by simp,fun a ha b hb=>?_⟩;have:=d3a n k a ha;have:b=k:=by simpa using hb
   omega
end Tw
namespace L2
open PySem PySem.Spec PyProof.Rows
variable {K:A0a}{a:Addr}{H:Hp}{xs:List V}{σ:St}{te tl:TE}{tt:TT}{Q:VK}
def rLen (K:A0a):List V->Hp->VK->Prop:=fun xs H Q=>(∃p ys,xs=[.ref p]/\(SqL K H p ys\/SqT K H p ys)/\Q (.int (ys.length:Nat)) H)\/∃z,xs=[.str z]/\z.length<=sizeLine/\Q (.int (z.length:Nat)) H
theorem a4s {X:Cx}:b2z X (.builtin "len") (rLen X.K):=call_len_seq.or call_len_str
section
variable {K:A0a}{H:Hp}{Q:VK}{D:c4x}{σ:St}{te:TE}{tA:TA}{g:TG}{tb:TS}{v w y:V}{a b l:Addr}{i j:Int}{xs ys zs:List V}{n:Nat}{T:String}{r:V->List V->Hp->VK->Prop}
theorem a4m (e:∀P:V->Hp->Prop,P (.ref a) H->tl σ H P)(s:SqL K H a xs)(Pv:Nat->St->Hp->Prop)(h0:Pv 0 σ H)(hl:∀i σ H,i<=xs.length->Pv i σ H->SqL K H a xs)
  (hs:∀i x σ H,xs[i]? = some x->Pv i σ H->g x σ H fun σ2 H2=>tb { D with nx:=Pv (i+1),ct:=Pv (i+1),bk:=D.nx } σ2 H2) (hd:∀σ H,Pv xs.length σ H->D.nx σ H):tFor (iList K tl) g tb D σ H:=
 e _ ⟨a,rfl,⟨xs,s⟩,for_list Pv h0 hl hs hd⟩
def sForL (K:A0a)(g:TG)(tb:TS)(D:c4x)(σ:St):V->Hp->Prop:=fun x H=>∃a,x=.ref a/\(∃xs,SqL K H a xs)/\∃W:Nat->Nat->St->Hp->Prop,(∃m,W 0 m σ H)/\∀i m σ H,W i m σ H->
 ((Itl K a).stop i H/\D.nx σ H)\/((Itl K a).go i H/\∃N:St->Hp->Prop,(∀σ' H',N σ' H'->∃m',m'<m/\W (i+1) m' σ' H')/\∀x H',(Itl K a).yld i H x H'->g x σ H' fun σ2 H2=>tb { D with nx:=N,ct:=N,bk:=D.nx } σ2 H2)
theorem b2q (h:tl σ H (sForL K g tb D σ)):tFor (iList K tl) g tb D σ H:=h
theorem b1s (s:SqL K H a xs)(Pv:Nat->St->Hp->Prop)(h0:Pv 0 σ H)(hl:∀i σ H,i<=xs.length->Pv i σ H->SqL K H a xs)
  (hs:∀i x σ H,xs[i]? = some x->Pv i σ H->g x σ H fun σ2 H2=>tb { D with nx:=Pv (i+1),ct:=Pv (i+1),bk:=D.nx } σ2 H2) (hd:∀σ H,Pv xs.length σ H->D.nx σ H):sForL K g tb D σ (.ref a) H:=
 ⟨a,rfl,⟨xs,s⟩,for_list Pv h0 hl hs hd⟩
theorem st_cat (h1:H l=some (.lst xs))(h2:H b=some (.lst zs))(hz:xs.length+zs.length<=1000)(q:∀p,H p=none->Q (.ref p) (upd H p (.lst (xs++zs)))):rCat (.ref l) (.ref b) H Q:=
 ⟨l,b,xs,zs,rfl,rfl,h1,h2,A3q (a3n hz),q⟩
theorem st_bm0 (h:te σ H fun x H1=>tyV K T x H1/\r x [] H1 Q):tBM0 K T r te σ H Q:=h
theorem st_bm (h:te σ H fun x H1=>tyV K T x H1/\tA σ H1 fun xs H2=>r x xs H2 Q):tBM K T r te tA σ H Q:=h
theorem st_tyI {P:Prop}(h:P):tyV K "int" (.int i) H/\P:=⟨rfl,h⟩
theorem st_tyL {P:Prop}(s:SqL K H a xs)(h:P):tyV K "list" (.ref a) H/\P:=⟨.inl ⟨rfl,xs,s⟩,h⟩
theorem st_bitlen (h:Q (.int (A1f i:Nat)) H):rBitLen (.int i) [] H Q:=⟨i,rfl,rfl,h⟩
theorem st_append (h:H l=some (.lst xs))(hz:xs.length<=1000)(q:Q .non (upd H l (.lst (xs++[y])))):rAppend (.ref l) [y] H Q:=⟨l,xs,y,rfl,rfl,h,a3n hz,q⟩
theorem st_lenL (s:SqL K H a xs)(h:Q (.int (xs.length:Nat)) H):rLen K [.ref a] H Q:=.inl ⟨a,xs,rfl,.inl s,h⟩
theorem st_lenT (s:SqT K H a xs)(h:Q (.int (xs.length:Nat)) H):rLen K [.ref a] H Q:=.inl ⟨a,xs,rfl,.inr s,h⟩
end
theorem b5f :A2p K (.type "NoneType") (.type "int")=some false:=by kernel_rfl
theorem b3k :A2p K (.type "NoneType") (.type "bool")=some false:=by kernel_rfl
theorem c4d :A2p K (.type "bool") (.type "int")=some true:=by kernel_rfl
theorem c0p :A2p K (.type "bool") (.type "bool")=some true:=by kernel_rfl
theorem c7d :A2p K (.type "int") (.type "int")=some true:=by kernel_rfl
theorem c3y :A2p K (.type "int") (.type "bool")=some false:=by kernel_rfl
theorem c8z :A2p K (.type "str") (.type "int")=some false:=by kernel_rfl
theorem c3s :A2p K (.type "str") (.type "bool")=some false:=by kernel_rfl
theorem kit_str_str :A2p K (.type "str") (.type "str")=some true:=by kernel_rfl
theorem d4m :A2p K (.type "list") (.type "list")=some true:=by kernel_rfl
theorem b6g :A2p K (.type "tuple") (.type "tuple")=some true:=by kernel_rfl
theorem c2m (n:Nat):n<2^(A1f (n:Int)):=by
 unfold A1f
 by_cases h:n=0
 ·subst h;decide
 ·have e:((n:Int)==0)=false:=by
   rw[beq_eq_false_iff_ne];omega
  rw[e];simp only[A4x,if_false,A9c];exact Nat.lt_log2_self
theorem b7j {n k:Nat}(h:n<2^k):A1f (n:Int)<=k:=by
 unfold A1f
 by_cases hn:n=0
 ·subst hn;simp
 ·have e:((n:Int)==0)=false:=by
   rw[beq_eq_false_iff_ne];omega
  rw[e];simp only[A4x,if_false,A9c];exact(Nat.log2_lt hn).mpr h
def ItB (K:A0a)(a:Addr)(n:Nat):It:=
 ⟨fun i H=>∃xs x,SqL K H a xs/\xs.length=n/\i<n/\xs[n-1-i]? = some x,fun i H x H'=>H'=H/\∀xs,SqL K H a xs->xs[n-1-i]? = some x,fun i _=>n<=i⟩
theorem turn_back {P:Program}{w:World}{tg:Expr}(a it:Addr)(n:Nat):Turn P w K tg (ItB K a n) [it] it (fun i h=>i<=n/\h.IsRevIter it a ((n:Int)-1-(i:Nat))) where
 mem:=List.mem_singleton.mpr rfl
 obj:=fun i h st b hb=>by
  cases List.mem_singleton.mp hb;obtain⟨_,o,e,c,d⟩:=st;exact⟨o,e,fun v z=>by rw[d] at z;cases z⟩
 keep:=fun i h h' st k=>⟨st.1,st.2.at fun o e=>k it (List.mem_singleton.mpr rfl) o e⟩
 item:=by
  intro X hP hw hK hc i pins s σ H E I hf st hg;subst hP hw hK;obtain⟨xs,x,hq,hn,hi,hx⟩:=hg;obtain⟨its,rv,p,hz⟩:=I.list hq;obtain⟨u,hu,ru⟩:=rv.get hx;obtain⟨f0,f1,f2,f3,f4,f5⟩:=hf it (List.mem_singleton.mpr rfl)
  have st0:s.heap.IsRevIter it a ((n-1-i:Nat):Int):=by
   have e:(n:Int)-1-(i:Nat)=((n-1-i:Nat):Int):=by omega
   rw[<- e];exact st.2
  refine wpAny_pyNext_rev_item st0 p.isList (x:=u) (by simpa using hu) fun h' st' sb=>?_
  have st2:h'.IsRevIter it a ((n:Int)-1-((i+1:Nat):Int)):=by
   have e:(n:Int)-1-((i+1:Nat):Int)=((n-1-i:Nat):Int)-1:=by omega
   rw[e];exact st'
  have I1:Inv X pins σ H { s with heap:=h' }:=I.turned (t':=s.toks) (fun b o hb e=>(sb.2 b hb).trans e) f0 f1 f3 f4 f5;obtain⟨o,e,c,d⟩:=id st';exact⟨u,rfl,go_of (s:={ s with heap:=h' }) e c d (by decide) ⟨x,H,I1,ru,⟨rfl,fun ys hy=>by rw[I.list_inj hy hq];exact hx⟩,⟨hi,st2⟩,fun b hb=>(hf b hb).1⟩⟩
 done:=by
  intro X hP hw hK hc i pins s σ H E I hf st hg;subst hP hw hK;have hg':n<=i:=hg;obtain⟨f0,f1,f2,f3,f4,f5⟩:=hf it (List.mem_singleton.mpr rfl)
  have st0:s.heap.IsRevIter it a (-1):=by
   have e:(n:Int)-1-(i:Nat) = -1:=by have:=st.1;omega
   rw[<- e];exact st.2
  exact wpAny_pyNext_rev_end (I.ok.hd hc) st0 fun h' eb=>⟨rfl,I.turned (t':=s.toks) (fun b o hb e=>eb b o hb e) f0 f1 f3 f4 f5⟩
 self:=fun _ _ _ _ _ st h=>wpAny_pyIter_revIter st.2 h
theorem d6z:bootBuiltins "reversed" = some (.type "reversed"):=by decide +kernel
def iRev (K:A0a)(ta:TA):TI:=fun σ H R=>ta σ H fun vs H1=>∃a xs,vs=[.ref a]/\SqL K H1 a xs/\R (ItB K a xs.length) H1
section
variable {X:Cx}{tg:Expr}
theorem pi_rev {a:Expr}{ta:TA}{p pos:Pos}(hg:Gl X "reversed")(hm:X.mg "reversed" = none)(ha:PA X [a] ta)(hs:starEach [a] X.env=[(false,eval a X.env)]:=by rfl):PI X tg (.Call (.Name "reversed" p) [a] [] pos) (iRev X.K ta):=by
 intro pins s σ H R I h;refine Call_ (c4f I hg hm d6z (A3c (thn (ha pos pins s σ H _ I h) fun us s1 ⟨vs,H1,I1,r1,q1⟩=>?_) hs rfl));obtain⟨b,xs,e,hq,q⟩:=q1;subst e
 cases r1 with
 | cons r rr=>
  cases rr;cases r;obtain⟨its,rv,p,hz⟩:=I1.list hq;refine call_reversed_list p.isList ?_;have hl:=rv.length;have I2:Inv X pins σ H1 { s1 with heap:=s1.heap.push (revObj b ((its.toArray.size:Int)-1)) }:=I1.kept (t':=s1.toks) fun b o e=>Heap.get?_push_of_some _ e
  have st:(s1.heap.push (revObj b ((its.toArray.size:Int)-1))).IsRevIter s1.heap.objs.size b ((xs.length:Int)-1-((0:Nat):Int)):=by
   refine⟨_,Heap.get?_push_size _ rfl,rfl,?_⟩
   have e:(its.toArray.size:Int)-1=(xs.length:Int)-1-((0:Nat):Int):=by
    rw[A0z,hl];omega
   rw[e];rfl
  refine wpAny_pyIter_revIter st ⟨s1.heap.objs.size,[s1.heap.objs.size],_,_,H1,rfl,I2,turn_back b _ xs.length,⟨A1v _,st⟩,fun c hc=>?_,q⟩;cases List.mem_singleton.mp hc;exact I1.fpOk (A0k _) (I1.hok.fresh (A0k _))
end
section
variable {K:A0a}{a:Addr}{xs:List V}{g:TG}{tb:TS}{D:c4x}{σ:St}{H:Hp}
theorem c8e {ta:TE}(e:∀P:V->Hp->Prop,P (.ref a) H->ta σ H P)(s:SqL K H a xs)(Pv:Nat->St->Hp->Prop)(h0:Pv 0 σ H)(hl:∀i σ H,i<=xs.length->Pv i σ H->SqL K H a xs)
  (hs:∀i x σ H,i<xs.length->xs.reverse[i]? = some x->Pv i σ H->g x σ H fun σ2 H2=>tb { D with nx:=Pv (i+1),ct:=Pv (i+1),bk:=D.nx } σ2 H2) (hd:∀σ H,Pv xs.length σ H->D.nx σ H):tFor (iRev K (c4p ta tNil)) g tb D σ H:=by
 refine e _ ⟨a,xs,rfl,s,fun i m σ H=>m=xs.length-i/\i<=xs.length/\Pv i σ H,⟨xs.length,by simp,A1v _,h0⟩,?_⟩;rintro i m σ H ⟨rfl,hi,p⟩;have q:=hl i σ H hi p
 by_cases hlt:i<xs.length
 ·have hj:xs.length-1-i<xs.length:=by omega
  refine .inr ⟨⟨xs,xs[xs.length-1-i],q,rfl,hlt,by simp[hj]⟩,Pv (i+1),fun σ' H' p'=>⟨xs.length-(i+1),by omega,rfl,hlt,p'⟩,fun x H' y=>?_⟩;obtain⟨e,y⟩:=y;subst e;refine hs i x σ _ hlt ?_ p;rw[List.getElem?_reverse hlt];exact y xs q
 ·have e:i=xs.length:=by omega
  subst e;exact .inl ⟨A0k _,hd σ H p⟩
end
theorem d6h (Pv:Nat->List V->Hp->Prop)(hn:xs.length<=1000)(h0:Pv 0 [] H)(hl:∀i ys H,Pv i ys H->ys.length<=i)(hk:∀i ys H,Pv i ys H->SqL K H a xs)
  (hs:∀i x ys H,xs[i]? = some x->Pv i ys H->tt (some x::σ) H fun b H2=>if b=true then te (some x::σ) H2 fun y H3=>Pv (i+1) (ys++[y]) H3 else Pv (i+1) ys H2)
  (hd:∀ys H,Pv xs.length ys H->∀p,H p=none->Q (.ref p) (upd H p (.lst ys))) :
  ∃W:Nat->Nat->List V->Hp->Prop,(∃m,W 0 m [] H)/\∀i m ys H,W i m ys H->((Itl K a).stop i H/\∀p,H p=none->Q (.ref p) (upd H p (.lst ys)))\/
   ((Itl K a).go i H/\ys.length<sizeLine/\∃N:List V->Hp->Prop,(∀ys' H',N ys' H'->∃m',m'<m/\W (i+1) m' ys' H')/\
    ∀x H',(Itl K a).yld i H x H'->tt (some x::σ) H' fun b H2=>if b=true then te (some x::σ) H2 fun y H3=>N (ys++[y]) H3 else N ys H2):=by
 refine⟨fun i m ys H=>m=xs.length-i/\i<=xs.length/\Pv i ys H,⟨xs.length,by simp,A1v _,h0⟩,?_⟩;rintro i m ys H ⟨rfl,hi,p⟩
 by_cases hlt:i<xs.length
 ·refine .inr ⟨⟨xs,xs[i],hk i ys H p,by simp[hlt]⟩,a3n (by have:=hl i ys H p;omega),Pv (i+1),fun ys' H' p'=>⟨xs.length-(i+1),by omega,rfl,hlt,p'⟩,fun x H' y=>?_⟩;obtain⟨e,y⟩:=y;subst e;exact hs i x ys _ (y xs (hk i ys _ p)) p
 ·have e:i=xs.length:=by omega
  subst e;exact .inl ⟨⟨xs,hk _ ys H p,A0k _⟩,hd ys H p⟩
theorem a1z (e:∀P:V->Hp->Prop,P (.ref a) H->tl σ H P)(s:SqL K H a xs)(Pv:Nat->List V->Hp->Prop)(hn:xs.length<=1000)(h0:Pv 0 [] H)(hl:∀i ys H,Pv i ys H->ys.length<=i)(hk:∀i ys H,Pv i ys H->SqL K H a xs)
  (hs:∀i x ys H,xs[i]? = some x->Pv i ys H->tt (some x::σ) H fun b H2=>if b=true then te (some x::σ) H2 fun y H3=>Pv (i+1) (ys++[y]) H3 else Pv (i+1) ys H2)
  (hd:∀ys H,Pv xs.length ys H->∀p,H p=none->Q (.ref p) (upd H p (.lst ys))):d0t (iList K tl) tt te σ H Q:=
 e _ ⟨a,rfl,⟨xs,s⟩,d6h Pv hn h0 hl hk hs hd⟩
end L2
namespace Tw
open PySem PySem.Spec PyProof.Rows L2
def AloneT (_:Addr)(_:Heap):Prop:=True
end Tw
namespace L2
open PySem PySem.Spec PyProof.Rows
variable {P:Program}{w:World}
abbrev bmVE:List Value:=[.type "ValueError",.type "Exception",.type "BaseException",.type "object"]
structure ExcK (K:A0a)(C:Addr):Prop where
 exc:PySem.W.excIn K C bmVE "ValueError.__new__" = true
 ga:A2n K (.ref C) "__getattribute__" = some (some (.builtin "BaseException.__getattribute__"))
 gt:A2n K (.ref C) "__getattr__" = some none
 ca:A2n K (.ref C) "__class__" = some (some (.builtin "object.__class__"))
 cg:A6h K (.builtin "object.__class__") "__get__" = some (some (.builtin "getset_descriptor.__get__"))
 tk:PySem.W.takesIn K (.builtin "object.__class__")=some true
 mo:B1m K C (.type "object")=some true
 mb:B1m K C (.type "BaseException")=some true
structure ExcC (K:A0a)(mg:Str->Option Value)(x:Str)(C:Addr):Prop where
 at_:mg x=some (.ref C)
 k:ExcK K C
structure Flown (P:Program)(w:World)(outer:List Env)(H:Hp)(s:Shared)(E:XK)(ea:Addr)(cls:Value)(H':Hp)(B:Heap)(s':Shared):Prop where
 os:s'.os=s.os
 bare:AllBare s'.gens
 un:Un (frs outer) [] H H' s.heap s'.heap
 hok:HOk P w H' s'.heap
 fly:∃a0,Heap.FlyingW B outer ea cls a0 s'.heap
 old:∀b o,s.heap.get? b=some o->b∉frs outer->∃o',B.get? b=some o'/\(H b=none->o'=o)
 trk:∀b u o,H' b=some u->s'.heap.get? b=some o->B.get? b=some o
 want:E cls none H'
 al:Tw.AloneT ea s'.heap\/E cls (some 0) H'
def CXE (P:Program)(w:World):CXT:=fun outer H s E e s'=>∃(ea:Addr) (cls:Value) (H':Hp) (B:Heap),e=.ref ea/\Flown P w outer H s E ea cls H' B s'
section
variable {P:Program}{w:World}{X:Cx}{pins:List (Addr×Obj)}{σ:St}{H H':Hp}{s s':Shared}{E:XK}{ea:Addr}{cls:Value}{B:Heap}{outer:List Env}
end
section
variable {X:Cx}{x:Str}{C:Addr}{E:XK}{np cpos pos:Pos}{e:Expr}{es:List Expr}{t:TA}
end
def XIn (X:Cx)(pins:List (Addr×Obj))(σ:St)(E:XK)(e:Value)(s':Shared):Prop:=∃H1 s1,Inv X pins σ H1 s1/\CXE X.prog X.w X.stack H1 s1 E e s'
def PEx (X:Cx)(e:Expr)(t:XK->TE):Prop:=
 ∀(pins:List (Addr×Obj)) (s:Shared) (σ:St) (H:Hp) (Q:VK) (E:XK),Inv X pins σ H s->t E σ H Q->wpAny (model X.prog X.w) X.A (eval e X.env) (EP X pins σ Q) (XIn X pins σ E) s
def PSx (X:Cx)(st:Stmt)(t:XK->TS):Prop:=
 ∀(pins:List (Addr×Obj)) (s:Shared) (σ:St) (H:Hp) (D:c4x) (E:XK),Inv X pins σ H s->t E D σ H->wpAny (model X.prog X.w) X.A (exec st X.env) (SP X pins D) (XIn X pins σ E) s
section
variable {X:Cx}{k j:Nat}{ps:List Str}{sp:Sp}{x:Str}{p pos:Pos}{e:Expr}{es:List Expr}{t:TA}
theorem pex_fn (c:Cal X.prog X.w X.K X.mg X.base (CXE X.prog X.w) k x ps sp)(hr:b8b j X.A)(ha:PA X.nox (e::es) t)(hk:k<=j:=by decide)(hg:Gl X x:=by rfl)(hdb:(x==("__debug__":Str))=false:=by decide)
  (he:starEach (e::es) X.env=(false,eval e X.env)::starEach es X.env:=by rfl) (hpl:(backTo pos (starEach es X.env)).any (·.1)=false:=by rfl) :
  PEx X (.Call (.Name x p) (e::es) [] pos) (fun E=>tCall sp [] E t):=by
 intro pins s σ H Q E I h;obtain⟨f,fd,F,hb,kp,hm⟩:=c.ex;refine A5t (c8b I hg hm ?_ hdb);refine A4w (h₀:=X.base) I.ok.mod.kin kp (A2u (ha pos pins s σ H _ (I.wish _) h) (fun us s1 ⟨vs,H1,I1,r,q⟩=>⟨I1.kIn,?_⟩) fun _ _ z=>z.elim) he hpl;have I1':Inv X pins σ H1 s1:=I1.unwish;have r2:a5q (vs++[]) (us++[]):=r.append .nil;have hl:(us++[]).length=ps.length:=by rw[<- r2.length];exact F.len _ _ _ _ q
 refine wpAny_call (A8z (F.run X.A X.stack s1 H1 ⟨us,[]⟩ (us++[]) (vs++[]) Q E (hr.mono hk) I1'.env0 (hb s1 us I1'.kIn hl) r2 q) fun r s' hq=>?_)
 cases r with
 | error e=>exact⟨H1,s1,I1',hq⟩
 | ok fl=>
  cases fl with
  | ret u=>exact I1'.after hq
  | next=>exact A4c hq
  | brk=>exact A4c hq
  | cont=>exact A4c hq
theorem psx_expr {e:Expr}{te:XK->TE}(he:PEx X e te)(hs:swapsWith e none pos.line X.env=pure false:=by rfl):PSx X (.Expr e pos) (fun E=>tDrop (te E)):=by
 intro pins s σ H D E I h;exact wpAny_Expr_any (thn (he pins s σ H _ E I h) fun v s1 ⟨x,H1,I1,r1,q1⟩=>⟨σ,H1,I1,q1⟩) I.quiet hs
end
def Cx.suite (X:Cx)(ea:Addr):Cx:={ X with A:=X.A.mark (some (.ref ea)),calm:=false,xe:=fun _ _=>False }
section
variable {X:Cx}{pins:List (Addr×Obj)}{σ:St}{H:Hp}{s:Shared}
end
section
variable {X:Cx}{st b₀:Stmt}{suite:List Stmt}{W:Addr}{i:Nat}{y n:Str}{np hpos pos:Pos}{t:XK->TS}{ts:TS}
end
theorem passE0 {X:Cx}:b5c (CXE P w) X E0:=fun _ _ _ _ _ _ _ ⟨_,_,_,_,_,F⟩=>F.want.elim
theorem Fun.okE {K:A0a}{mg:Str->Option Value}{base:Heap}{x qual:Str}{st:Stmt}{f:Addr}{fd:FuncData}{N ps:List Str}{k:Nat}{sp:Sp}(F:Fun K x qual st f fd)(S:a0n N ps (a0g st))(len:∀vs H Q E,sp vs H Q E->vs.length=ps.length)
  (hbody:∀(cdv:Value) (A:Around) (outer:List Env) (s:Shared) (H:Hp) (vs:List V) (Q:VK) (E:XK),b8b k (A.deeper (envOfC qual (a0g st) s.heap.objs.size f cdv))->sp vs H Q E->
   ∃t,PSs (cxOf (CXE P w) P w K mg base N qual (a0g st) f cdv A outer s H E) (a6r st) t/\t { nx:=fun _ H'=>Q .non H',rt:=Q } (start N vs) H):a2n P w K mg base (CXE P w) (k+1) f fd ps sp:=by
 obtain⟨oc,od,kV,doc,pm,an,cdv,ct,osl,rfl,lk,hcd⟩:=F.ex;exact fn_of lk hcd S len fun A outer s H vs Q E hr hsp=>hbody cdv A outer s H vs Q E hr hsp
end L2
namespace L2
open PySem PySem.Spec PyProof.Rows PySem.Builtin PySem.Builtin.ObjectAttr PySem.Builtin.Getset_descriptor
section
variable {prog:Program}{w:World}{A:Around}{E:Value->Shared->Prop}{s:Shared}{K:A0a}{a C:Addr}
end
section
variable {X:Cx}
end
end L2
namespace Tw
theorem cnt_xor2 (p q:Nat->Bool):∀k,(cnt (fun i=>p i ^^ q i) k)%2=(cnt p k+cnt q k)%2
 | 0=>rfl
 | k+1=>by
  have h:=cnt_xor2 p q k;rw[cnt,cnt,cnt];cases p k<;>cases q k<;>simp<;>omega
theorem big2 (a b:Nat):∃k,a<2^k/\b<2^k:=⟨a+b,by
  have:=@A6v (a+b);omega,by
  have:=@A6v (a+b);omega⟩
theorem b4u (a b:Nat):pop (a^^^b)%2=(pop a+pop b)%2:=by
 obtain⟨k,ha,hb⟩:=big2 a b;rw[b2h k _ (b6r ha hb),b2h k _ ha,b2h k _ hb,<- cnt_xor2]
 congr 1
 exact c9k fun i _=>by rw[A0m]
theorem a9b (a b c:Nat):a&&&(b^^^c)=(a&&&b)^^^(a&&&c):=by
 apply A1h;intro i;simp only[A1k,A0m];cases a.testBit i<;>cases b.testBit i<;>cases c.testBit i<;>rfl
theorem a8q (a b c:Nat):(a^^^b)&&&c=(a&&&c)^^^(b&&&c):=by
 rw[A0w,a9b,A0w c a,A0w c b]
theorem pop_both (x1 z1 x2 z2:Nat):pop ((x1^^^x2)&&&(z1^^^z2))%2=(pop (x1&&&z1)+pop (x2&&&z2)+pop ((x1&&&z2)^^^(z1&&&x2)))%2:=by
 have e:(x1^^^x2)&&&(z1^^^z2)=((x1&&&z1)^^^(x1&&&z2))^^^((x2&&&z1)^^^(x2&&&z2)):=by
  rw[a8q,a9b,a9b]
 have h1:=b4u ((x1&&&z1)^^^(x1&&&z2)) ((x2&&&z1)^^^(x2&&&z2));have h2:=b4u (x1&&&z1) (x1&&&z2);have h3:=b4u (x2&&&z1) (x2&&&z2);have h4:=b4u (x1&&&z2) (z1&&&x2);rw[A0w z1 x2] at h4 ⊢;rw[e];omega
theorem d3d (b:Bool):bI b=((b.toNat:Nat):Int):=by cases b<;>rfl
end Tw
namespace L2
open PySem PySem.Spec PyProof.Rows
variable {K:A0a}{C dx:Addr}{xs:Array (Int×Tok)}{neg:Bool}{a:Expr}{o:HO}{H:Hp}{pins:List (Addr×Obj)}{elts:List Expr}{is ns:List Int}{i kk:Nat}{p pos tpos:Pos}{P:Program}{σ:St}{k:Str}{ta:TA}{x:V}{w:World}{E:XK}
section
variable {K:A0a}{H:Hp}{Q:VK}{σ:St}{ta tb tc:TE}{r r':R2}{n k:Nat}{i:Int}{p q:Bool}{a:Addr}
theorem st_chain (h:ta σ H fun x H1=>tb σ H1 fun y H2=>r x y H2 fun z H3=>∃k,z=.bl k/\(if k=true then tc σ H3 fun w' H4=>r' y w' H4 Q else Q (.bl false) H3)):tChain r r' ta tb tc σ H Q:=h
theorem st_andB (h:Q (.int (Tw.bI (p&&q))) H):rI0 (fun i j=>.int (A2e i j)) (.int (Tw.bI p)) (.int (Tw.bI q)) H Q:=d7a (by
 rw[Tw.d3d,Tw.d3d,a7z];have e:((p.toNat&&&q.toNat:Nat):Int)=Tw.bI (p&&q):=by cases p<;>cases q<;>rfl
 rw[e];exact h)
theorem st_shlB (c:k<=1000)(h:Q (.int ((p.toNat*2^k:Nat):Int)) H):rI CPow (fun i j=>.int (i*2^j.toNat)) (.int (Tw.bI p)) (.int (k:Int)) H Q:=st_i (cpow_n c (by cases p<;>decide)) (by
 rw[A3t,Tw.d3d,Tw.pow2_cast,<- Int.natCast_mul];exact h)
theorem st_in01 {m:Nat}(s:SqT K H a [.int 0,.int 1])(hm:m<=1)(h:Q (.bl true) H):rIn K false (.int (m:Int)) (.ref a) H Q:=⟨a,[.int 0,.int 1],rfl,.inr s,rfl,rfl,by
 have e:inV (.int (m:Int)) [.int 0,.int 1]=true:=by
  have:m=0\/m=1:=by omega
  rcases this with rfl|rfl<;>decide
 rw[e];exact h⟩
end
section
variable {X:Cx}{K:A0a}
theorem d4v (h:X.K=K):IxR X (rIxT K):=h▸a0p
theorem ix_listK (h:X.K=K):IxR X (rIxL K):=h▸b3u
end
section
variable {X:Cx}{K:A0a}
end
theorem a1n.updF {H':Hp}{p:Addr}(s:a1n H H')(h:H p=none):a1n H (upd H' p o):=fun b u q=>by
 rw[a0w (a0j q h)];exact s b u q
theorem all_getD (bs:List Bool):(A3a bs.length).all (fun i=>bs.getD i false)=bs.all id:=by
 rw[A7c,A4h,A4h]
 constructor
 ·intro h b hb;obtain⟨i,hi,e⟩:=List.getElem_of_mem hb;have:=h i (List.mem_range.mpr hi);rw[List.getD_eq_getElem?_getD,List.getElem?_eq_getElem hi,A6u,e] at this;exact this
 ·intro h i hi;have hi':=List.mem_range.mp hi;rw[List.getD_eq_getElem?_getD,List.getElem?_eq_getElem hi',A6u];exact h _ (A5p hi')
section
variable {X:Cx}
def rAll (K:A0a):List V->Hp->VK->Prop:=fun xs H Q=>∃(p:Addr) (bs:List Bool),xs=[.ref p]/\SqL K H p (bs.map V.bl)/\Q (.bl (bs.all id)) H
theorem a7p (hc:X.calm=true):b2z X (.builtin "all") (rAll X.K):=by
 intro pins s σ H xs us Q I r h;obtain⟨p,bs,rfl,hs,q⟩:=h;obtain⟨u,rfl,ru⟩:=a5q.one r;cases (show u=A3b p from ru);obtain⟨its,rv,pl,hz⟩:=I.list hs;have hlen:its.length=bs.length:=by rw[<- rv.length,A0b]
 have hpl:p<s.heap.objs.size:=by
  obtain⟨o,n,e,_⟩:=pl;exact A0y e
 refine call_all_walk (wpAny_pyIter_list pl.isList ?_);refine⟨s.heap.objs.size,[s.heap.objs.size,p],[s.heap.objs.size],its.toArray.size,_,_,fun i=>bs.getD i false,rfl,Walks.list (A:=X.A.in1) (I.ok.hd hc) s.heap.objs.size p (A2r hpl) its.toArray,⟨⟨_,Heap.get?_push_size _ rfl,rfl,rfl⟩,?_⟩,fun i v s' Q' E' hv hq=>?_,fun h' tk hk=>?_⟩
 ·exact pl.isList.at fun o e=>Heap.get?_push_of_some _ e
 ·have hv':its[i]? = some v:=by simpa using hv
  have hi:i<bs.length:=by
   rw[<- hlen];exact(List.getElem?_eq_some_iff.mp hv').1
  obtain⟨u,e1,e2⟩:=rv.get (i:=i) (x:=.bl bs[i]) (by rw[List.getElem?_map,List.getElem?_eq_getElem hi];rfl);rw[hv'] at e1;cases e1;cases (show v=B1a bs[i] from e2);refine A5c ?_;dsimp only at hq;rw[List.getD_eq_getElem?_getD,List.getElem?_eq_getElem hi,A6u] at hq;exact hq
 ·have e:its.toArray.size=bs.length:=by simpa using hlen
  rw[e,all_getD];refine⟨.bl _,H,I.kept (t':=tk) (h':=h') fun b o eb=>hk b o (fun z=>?_) (Heap.get?_push_of_some _ eb),rfl,q⟩;have:b=s.heap.objs.size:=by simpa using z
  exact A2z _ (this▸A0y eb)
def rLst (K:A0a):List V->Hp->VK->Prop:=fun xs H Q=>∃p ys,xs=[.ref p]/\(SqL K H p ys\/SqT K H p ys)/\∀l,H l=none->Q (.ref l) (upd H l (.lst ys))
theorem b0d:b2z X (.type "list") (rLst X.K):=call_list_of
end
section
variable {K:A0a}{H:Hp}{Q:VK}{a:Addr}{xs:List V}
theorem c1y {bs:List Bool}(s:SqL K H a (bs.map V.bl))(q:Q (.bl (bs.all id)) H):rAll K [.ref a] H Q:=⟨a,bs,rfl,s,q⟩
theorem st_lstT (s:SqT K H a xs)(q:∀l,H l=none->Q (.ref l) (upd H l (.lst xs))):rLst K [.ref a] H Q:=⟨a,xs,rfl,.inr s,q⟩
theorem st_yes {R:Bool->Hp->Prop}(h:R true H):tYes σ H R:=h
theorem b3s {tl:TE}{tt:TT}{te:TE}(e:∀P:V->Hp->Prop,P (.ref a) H->tl σ H P)(s:SqT K H a xs)(Pv:Nat->List V->Hp->Prop)(hn:xs.length<=1000)(h0:Pv 0 [] H)(hl:∀i ys H,Pv i ys H->ys.length<=i)(hk:∀i ys H,Pv i ys H->SqT K H a xs)
  (hs:∀i x ys H,xs[i]? = some x->Pv i ys H->tt (some x::σ) H fun b H2=>if b=true then te (some x::σ) H2 fun y H3=>Pv (i+1) (ys++[y]) H3 else Pv (i+1) ys H2)
  (hd:∀ys H,Pv xs.length ys H->∀p,H p=none->Q (.ref p) (upd H p (.lst ys))):d0t (iTup K tl) tt te σ H Q:=
 e _ ⟨a,rfl,⟨xs,s⟩,comp_tup Pv hn h0 hl hk hs hd⟩
end
theorem d1q:bootBuiltins "enumerate" = some (.type "enumerate"):=by decide +kernel
def Ite (z:Str):It:=⟨fun i _=>i<z.cps.size,fun i H x H'=>∃T c,H T=none/\x=.ref T/\z.cps[i]? = some c/\H'=upd H T (.tup [.int (i:Int),.str ⟨#[c]⟩]),fun i _=>z.cps.size<=i⟩
theorem turn_enum {ty:String}(hty:ty= "str_ascii_iterator"\/ty= "str_iterator")(e it:Addr)(hne:e≠it)(z:Str)(t:Tok) :
  Turn P w K (.Tuple elts kk tpos) (Ite z) [e,it] e (fun i h=>((∃old,IsEnum h e it i old)/\h.IsStrIter it ty z t i)/\i<=z.cps.size) where
 mem:=by simp
 obj:=fun i h st b hb=>by
  rcases List.mem_cons.mp hb with r|r
  ·subst r;obtain⟨⟨⟨old,q⟩,_⟩,_⟩:=st
   exact⟨_,q,fun v z=>by
    have z':Data.fields _=Data.cell v:=z
    cases z'⟩
  ·have r':b=it:=by simpa using r
   subst r';obtain⟨⟨_,⟨o,q,c,d⟩⟩,_⟩:=st;exact⟨o,q,fun v q=>by rw[d] at q;cases q⟩
 keep:=fun i h h' st k=>by
  obtain⟨⟨⟨old,q⟩,⟨o,q2,r⟩⟩,l⟩:=st;exact⟨⟨⟨old,k e (by simp) _ q⟩,⟨o,k it (by simp) o q2,r⟩⟩,l⟩
 item:=by
  intro X hP hw hK hc i pins s σ H E I hf st hg;subst hP hw hK
  have D:Draws X.prog X.w X.A.in1 it [it] z.cps.size (fun i v=>∃c u,z.cps[i]? = some c/\v=.str ⟨#[c]⟩ u) (fun i h=>h.IsStrIter it ty z t i):=by
   rcases hty with rfl|rfl
   ·exact Draws.strAscii (A:=X.A.in1) (I.ok.hd hc) it z t
   ·exact Draws.strWide (A:=X.A.in1) (I.ok.hd hc) it z t
  have W:=A7q (A:=X.A) D e hne (by simpa using hne) (by simp);refine W.item i s _ _ hg st.1 fun T vals h' tk hv hT htup mid kk'=>?_;obtain⟨t1,x,⟨c,u,hc',rfl⟩,rfl⟩:=hv;refine⟨_,rfl,W.go elts kk tpos i T _ _ _ mid fun h2 st2 k2=>?_⟩;have hTw:=W.apart i T _ mid;have hH:H T=none:=I.hok.fresh hT;have kept:∀b o,b∉[e,it]->s.heap.get? b=some o->h2.get? b=some o:=fun b o hb q=>k2 b o hb (kk' b o hb q)
  have ntr:∀b v,H b=some v->b∉[e,it]:=fun b v q hb=>by
   have:=(hf b (by simpa using hb)).1;rw[q] at this;cases this
  have bT:∀b o,s.heap.get? b=some o->b≠T:=fun b o q=>A2r (A0c (A0y q) hT);obtain⟨oT,eT,cT,nT,dT⟩:=htup;have eT2:=k2 T oT hTw eT
  have un:Un (frs X.stack) [e,it] H (upd H T (.tup [.int (i:Int),.str ⟨#[c]⟩])) s.heap h2:=
   ⟨fun b o q _ _ n3=>kept b o n3 q,fun b o q _ _ n3=>⟨o.slots,kept b o n3 q⟩,fun b o q n _=>by rw[a0w (bT b o q)];exact n,fun b o q n3=>⟨o,kept b o n3 q⟩,
    fun b xs q=>by rw[a0w (a0j q hH)];exact q,fun b o v q=>by rw[a0w (a0j q hH)];exact q,fun b ps q=>⟨#[],by rw[a0w (a0j q hH),q];simp⟩⟩
  have hok:HOk X.prog X.w (upd H T (.tup [.int (i:Int),.str ⟨#[c]⟩])) h2:=fun b v q=>by
   by_cases hb:b=T
   ·subst hb;rw[a0d] at q;cases q;exact⟨A3q (a3n (show (2:Nat)<=1000 by decide)),[.int (i:Int) t1,.str ⟨#[c]⟩ u],.cons ⟨_,rfl⟩ (.cons ⟨_,rfl⟩ .nil),oT,eT2,cT,nT,dT⟩
   ·rw[a0w hb] at q;refine(I.hok b v q).stay (fun c' v' hc2 q'=>?_) (fun c' q'=>by rw[a0w (a0j q' hH)];exact q') fun c' xs q'=>by rw[a0w (a0j q' hH)];exact q'
    rcases hc2 with r|r
    ·subst r;exact kept _ _ (ntr _ _ q) q'
    ·exact kept _ _ (ntr _ _ r) q'
  refine⟨.ref T,_,I.call' (s':={ s with heap:=h2,toks:=tk }) rfl un hok I.bare (fun b hb=>?_),rfl,⟨T,c,hH,rfl,hc',rfl⟩,⟨st2,hg⟩,fun b hb=>?_⟩
  ·obtain⟨f0,f1,f2,f3,f4,f5⟩:=hf b hb;exact⟨f3,f1,f4,f5⟩
  ·have hbT:b≠T:=fun q=>hTw (by rw[<- q];exact hb);rw[a0w hbT];exact(hf b hb).1
 done:=by
  intro X hP hw hK hc i pins s σ H E I hf st hg;subst hP hw hK
  have D:Draws X.prog X.w X.A.in1 it [it] z.cps.size (fun i v=>∃c u,z.cps[i]? = some c/\v=.str ⟨#[c]⟩ u) (fun i h=>h.IsStrIter it ty z t i):=by
   rcases hty with rfl|rfl
   ·exact Draws.strAscii (A:=X.A.in1) (I.ok.hd hc) it z t
   ·exact Draws.strWide (A:=X.A.in1) (I.ok.hd hc) it z t
  have W:=A7q (A:=X.A) D e hne (by simpa using hne) (by simp);have ei:i=z.cps.size:=B0u st.2 hg;refine W.done s _ _ (ei▸st.1) fun h2 tk kk'=>⟨rfl,?_⟩
  have ntr:∀b v,H b=some v->b∉[e,it]:=fun b v q hb=>by
   have:=(hf b (by simpa using hb)).1;rw[q] at this;cases this
  have un:Un (frs X.stack) [e,it] H H s.heap h2:=
   ⟨fun b o q _ _ n3=>kk' b o n3 q,fun b o q _ _ n3=>⟨o.slots,kk' b o n3 q⟩,fun b o q n _=>n,fun b o q n3=>⟨o,kk' b o n3 q⟩,fun _ _ q=>q,fun _ _ _ q=>q,fun b ps q=>⟨#[],by rw[q];simp⟩⟩
  have hok:HOk X.prog X.w H h2:=fun b v q=>by
   refine(I.hok b v q).stay (fun c' v' hc2 q'=>?_) (fun _ q'=>q') fun _ _ q'=>q'
   rcases hc2 with r|r
   ·subst r;exact kk' _ _ (ntr _ _ q) q'
   ·exact kk' _ _ (ntr _ _ r) q'
  exact I.call' (s':={ s with heap:=h2,toks:=tk }) rfl un hok I.bare fun b hb=>by
   obtain⟨f0,f1,f2,f3,f4,f5⟩:=hf b hb;exact⟨f3,f1,f4,f5⟩
 self:=fun _ _ _ _ _ st h=>by
  obtain⟨⟨⟨old,q⟩,_⟩,_⟩:=st;exact A7r q h
section
variable {X:Cx}{tg:Expr}
def iEnumS (ta:TA):TI:=fun σ H R=>ta σ H fun vs H1=>∃z,vs=[.str z]/\R (Ite z) H1
theorem pi_enumS (hg:Gl X "enumerate")(hm:X.mg "enumerate" = none)(ha:PA X [a] ta)(hs:starEach [a] X.env=[(false,eval a X.env)]:=by rfl) :
  PI X (.Tuple elts kk tpos) (.Call (.Name "enumerate" p) [a] [] pos) (iEnumS ta):=by
 intro pins s σ H R I h;refine Call_ (c4f I hg hm d1q (A3c (thn (ha pos pins s σ H _ I h) fun us s1 ⟨vs,H1,I1,r1,q1⟩=>?_) hs rfl));obtain⟨z,rfl,q⟩:=q1;obtain⟨u,rfl,ru⟩:=a5q.one r1;obtain⟨t,rfl⟩:=ru;refine call_enumerate_str fun h' he hit hsz hk=>?_;refine A7r he ?_
 have hty:strIterType z= "str_ascii_iterator"\/strIterType z= "str_iterator":=by
  unfold strIterType
  split
  ·exact .inl rfl
  ·exact .inr rfl
 refine⟨s1.heap.objs.size+1,[s1.heap.objs.size+1,s1.heap.objs.size],_,_,H1,rfl,I1.kept (t':=s1.toks) hk,turn_enum hty _ _ (Nat.succ_ne_self _) z t,⟨⟨⟨_,he⟩,hit⟩,A1v _⟩,fun b hb=>?_,q⟩
 have hb':s1.heap.objs.size<=b:=by
  rcases List.mem_cons.mp hb with r|r
  ·rw[r];exact A5x _
  ·have:b=s1.heap.objs.size:=by simpa using r
   rw[this];exact A0k _
 exact I1.fpOk hb' (I1.hok.fresh hb')
end
abbrev T (l:List Nat):V:=.str ⟨l.toArray⟩
section
variable {X:Cx}
def rInS:R2:=fun x y H Q=>∃i j,x=.str i/\y=.str j/\Q (.bl (!(A5j j i 0 j.length 1).isEmpty)) H
theorem op_inS:OpR X (compareOp .In) rInS:=op_in_str
end
section
variable {K:A0a}{H:Hp}{Q:VK}{a:Addr}{l k:List Nat}{c:Nat}{σ:St}
theorem st_for_enumS {g:TG}{tb:TS}{D:c4x}(e:∀P:List V->Hp->Prop,P [T l] H->ta σ H P)(Pv:Nat->St->Hp->Prop)(h0:Pv 0 σ H)
  (hs:∀i c σ H p,l[i]? = some c->Pv i σ H->H p=none->g (.ref p) σ (upd H p (.tup [.int (i:Int),T [c]])) fun σ2 H2=>tb { D with nx:=Pv (i+1),ct:=Pv (i+1),bk:=D.nx } σ2 H2) (hd:∀σ H,Pv l.length σ H->D.nx σ H):tFor (iEnumS ta) g tb D σ H:=by
 refine e _ ⟨_,rfl,fun i m σ H=>m=l.length-i/\i<=l.length/\Pv i σ H,⟨l.length,by simp,A1v _,h0⟩,?_⟩;rintro i m σ H ⟨rfl,hi,p⟩
 by_cases hlt:i<l.length
 ·refine .inr ⟨by show i<l.toArray.size;simpa using hlt,Pv (i+1),fun σ' H' p'=>⟨l.length-(i+1),by omega,rfl,hlt,p'⟩,fun x H' y=>?_⟩;obtain⟨A,c,hA,rfl,hc,rfl⟩:=y;exact hs i c σ H A (by simpa using hc) p hA
 ·have e:i=l.length:=by omega
  subst e;exact .inl ⟨by show l.toArray.size<=l.length;simp,hd σ H p⟩
end
structure d6v (P:Program)(w:World)(K:A0a)(mg:Str->Option Value)(base:Heap)(CX:CXT)(k:Nat)(x:Str)(C:Addr)(ps:List Str)(sp:Sp):Prop where
 ex:∃f fd,Mk K C f/\a2n P w K mg base CX k f fd ps sp/\c1m K fd ps []/\mg x=some (.ref C)
structure b3r (P:Program)(w:World)(K:A0a)(mg:Str->Option Value)(base:Heap)(CX:CXT)(k:Nat)(C:Addr)(m:Str)(ps:List Str)(sp:Sp):Prop where
 cl:Cls K C
 ex:∃f fd,Meth K C m f/\a2n P w K mg base CX k f fd ps sp/\c1m K fd ps []
structure CMeth (K:A0a)(C:Addr)(m:Str)(f:Addr):Prop where
 g:A6h K (.ref C) "__getattribute__" = some (some (.builtin "type.__getattribute__"))
 r:B0v K C (.type "type")=true
 e:B0w K (.ref C) (.type "type") m=some (.val (.ref f))
 kp:A3f K (.ref f)=true
structure CCal (P:Program)(w:World)(K:A0a)(mg:Str->Option Value)(base:Heap)(CX:CXT)(k:Nat)(x m:Str)(ps:List Str)(sp:Sp):Prop where
 ex:∃C f fd,mg x=some (.ref C)/\CMeth K C m f/\a2n P w K mg base CX k f fd ps sp/\c1m K fd ps []
section
variable {X:Cx}{CX:CXT}{j k:Nat}{C:Addr}{ps:List Str}{sp:Sp}{E:XK}{x m:Str}{p pos apos:Pos}{e o:Expr}{es:List Expr}{ta:TE}{t:TA}
theorem b5d (c:d6v X.prog X.w X.K X.mg X.base CX k x C ps sp)(hr:b8b j X.A)(hx:b5c CX X E)(ha:PA X (e::es) t)(hk:k+1<=j:=by decide)(hg:Gl X x:=by rfl)(hdb:(x==("__debug__":Str))=false:=by decide)
  (he:starEach (e::es) X.env=(false,eval e X.env)::starEach es X.env:=by rfl) (hpl:(backTo pos (starEach es X.env)).any (·.1)=false:=by rfl) :
  PE X (.Call (.Name x p) (e::es) [] pos) (tMake C sp [] E t):=by
 obtain⟨f,fd,M,F,b,m⟩:=c.ex;exact pe_make M F (hr.mono hk) hg m b .nil hx ha hdb he hpl
theorem pe_cm {pl:Sem Bool}(c:CCal X.prog X.w X.K X.mg X.base CX k x m ps sp)(hr:b8b j X.A)(hx:b5c CX X E)(ha:PA X (e::es) t)(hk:k<=j:=by decide)(hg:Gl X x:=by rfl)(hdb:(x==("__debug__":Str))=false:=by decide)
  (hst:starEach (e::es) X.env=(false,eval e X.env)::starEach es X.env:=by rfl) (hpl:(backTo pos (starEach es X.env)).any (·.1)=false:=by rfl)
  (ht:eval (.Call (.Attribute (.Name x p) m apos) (e::es) [] pos) X.env=(do
   let ov <- eval (.Name x p) X.env
   standAt apos.atName
   let (f,first) <- holding [ov] (getMethod ov m pl)
   callWith pos f first (backTo pos (starEach (e::es) X.env)) (backToKw pos (keywordEach [] X.env))):=by rfl) :
  PE X (.Call (.Attribute (.Name x p) m apos) (e::es) [] pos) (tCall sp [] E t):=by
 intro pins s σ H Q I h;obtain⟨C,f,fd,hm,cm,F,b⟩:=c.ex;refine A6a (pl:=pl) (c8b I hg hm ?_ hdb) ht;refine PySem.W.method_cls I.kIn cm.g (PySem.W.cls_value I.kIn cm.r cm.e rfl ?_);refine A4w (first:=[]) (h₀:=X.base) I.ok.mod.kin cm.kp (thn (ha pos pins _ σ H _ (I.tok _) h) fun us s2 ⟨vs,H2,I2,r,q2⟩=>⟨I2.kIn,?_⟩) hst hpl;exact run_fn F (hr.mono hk) b .nil hx I2 r q2
def Tab (K:A0a)(a:Addr)(D:List (Str×Int)):Prop:=KTD.tabLook (KTD.datLooks fun b=>K.lookup b) (fun b=>K.lookup b) a (D.map fun p=>(p.1,A9d (.int p.2)))=true
def GTab (K:A0a)(mg:Str->Option Value)(x:Str)(a:Addr)(D:List (Str×Int)):Prop:=mg x=some (.ref a)/\Tab K a D
theorem pe_gt {a:Addr}{D:List (Str×Int)}(h:GTab X.K X.mg x a D)(hg:Gl X x:=by rfl)(hd:(x==("__debug__":Str))=false:=by decide):PE X (.Name x pos) (tC (.ref a)):=pe_glob hg h.1 rfl hd
def tabAt (k:Str)(D:List (Str×Int)):Option Int:=A6b k D
theorem tab_keys {k:Str}:∀D:List (Str×Int),KTD.inKeys k (D.map fun p=>(p.1,A9d (.int p.2)))=(A6b k D).isSome:=by
 intro D;rw[<- KTD.isSome_datumAt]
 induction D with
 | nil=>rfl
 | cons p D ih=>
  rw[A2a];unfold A6b
  by_cases hk:k=p.1
  ·simp only[hk];rfl
  ·simp only[hk];exact ih
theorem tab_datum {k:Str}{d:KTD.Dat}:∀D:List (Str×Int),A6b k (D.map fun p=>(p.1,A9d (.int p.2)))=some d->∃i,A6b k D=some i/\d=.flat (.int i):=by
 intro D
 induction D with
 | nil=>intro h;cases h
 | cons p D ih=>
  rw[A2a];unfold A6b
  by_cases hk:k=p.1
  ·simp only[hk];intro h;exact⟨p.2,rfl,(A0s h).symm⟩
  ·simp only[hk];exact ih
def rInTab (K:A0a)(neg:Bool):R2:=fun x y H Q=>∃k a D,x=.str k/\y=.ref a/\Tab K a D/\Q (.bl (neg != (tabAt k D).isSome)) H
theorem op_notInTab:OpR X (compareOp .NotIn) (rInTab X.K true):=by
 intro pins s σ H x y v u Q I rx ry h;obtain⟨k,a,D,rfl,rfl,hT,q⟩:=h;obtain⟨t,rfl⟩:=rx;cases ry;refine KTD.notin_text ⟨B1p I.kIn hT,fun _ _ z=>z⟩ ⟨.bl _,H,I.tok _,rfl,?_⟩;rw[tab_keys];have e:(true != (tabAt k D).isSome) = !(A6b k D).isSome:=by unfold tabAt;cases (A6b k D).isSome<;>rfl
 rw[e] at q;exact q
def rIxTab (K:A0a):R2:=fun x y H Q=>∃k a D i,x=.ref a/\y=.str k/\Tab K a D/\tabAt k D=some i/\Q (.int i) H
theorem plain_tab:∀D:List (Str×Int),((D.map fun p=>(p.1,A9d (.int p.2))).all fun p=>KTD.plain p.2)=true:=by
 intro D
 induction D with
 | nil=>rfl
 | cons p D ih=>rw[A2a,A5m,ih];rfl
theorem ix_tab:IxR X (rIxTab X.K):=by
 intro value slice pins s σ H x y v u Q I rx ry h hs;obtain⟨k,a,D,i,rfl,rfl,hT,hi,q⟩:=h;cases rx;obtain⟨t,rfl⟩:=ry;have T:KTD.Here s.heap s.heap a (D.map fun p=>(p.1,A9d (.int p.2))):=⟨B1p I.kIn hT,fun _ _ z=>z⟩;refine subscriptTail_builtin_flat T.typeIs slot_dict_getitem.lookup ?_ hs;unfold getItem
 try with_reducible refine B0b ?_
 refine A0n (A9s T.typeIs (by decide) ?_)
 refine A0n (wpAny_callSpecial?_slot (name:=A6x "__getitem__") T.typeIs slot_dict_getitem
  (B0e slot_dict_getitem T.typeIs entry_dict_getitem ?_ (args_dict_getitem _ _)))
 show wpAny _ _ (dictGet a (.str k t) >>= _) _ _ s;refine A0n (KTD.dictGet_text T (fun d v ha hv=>A1e ⟨v,rfl,A1e ⟨KTD.notRef_of_plain (KTD.plain_at (plain_tab D) ha) hv,?_⟩⟩) fun hn=>absurd hn (KTD.at_of_mem (by rw[tab_keys];show (tabAt k D).isSome=true;rw[hi];rfl)));obtain⟨i',e1,rfl⟩:=tab_datum D ha
 have e2:i'=i:=by
  have e3:A6b k D=some i:=hi;rw[e3] at e1;exact(A0s e1).symm
 subst e2;have hv':PyProof.V.Flat v (.int i'):=hv;obtain⟨t',rfl⟩:=hv'.int_inv;exact⟨.int i',H,I.tok _,⟨_,rfl⟩,q⟩
end
theorem b3b:∀{ns:List Int} {us:List Value},a5q (ns.map V.int) us->∃xs:Array (Int×Tok),us.toArray=intItems xs/\xs.toList.map (·.1)=ns
 | [],[],_=>⟨#[],by simp[intItems],rfl⟩
 | n::ns,u::us,r=>by
  cases r with
  | cons r1 r2=>
   obtain⟨t,rfl⟩:=r1;obtain⟨xs,e1,e2⟩:=b3b r2;refine⟨((n,t)::xs.toList).toArray,?_,?_⟩
   ·have e3:us=(intItems xs).toList:=by rw[<- e1]
    rw[e3];simp[intItems]
   ·simp[e2]
def rBest (K:A0a)(le:Int->Int->Prop):List V->Hp->VK->Prop:=fun xs H Q=>∃(p:Addr) (ns:List Int),xs=[.ref p]/\(SqL K H p (ns.map V.int)\/SqT K H p (ns.map V.int))/\0<ns.length/\∀M,M∈ns->(∀a∈ns,le a M)->Q (.int M) H
section
variable {X:Cx}{s:Shared}{A:Around}{E:Value->Shared->Prop}
theorem c6c {Q:VK}{num:Nat->Nat->Bool}{le:Int->Int->Prop}(I:Inv X pins σ H s)(ex:xs.toList.map (·.1)=ns)(hne:0<ns.length)
  (hb:argBest num (xs.size-1)<=xs.size-1/\∀j,j<=xs.size-1->le (numAt xs j) (numAt xs (argBest num (xs.size-1)))) (q:∀M,M∈ns->(∀a∈ns,le a M)->Q (.int M) H)
  {v:Value} {h':Heap} {tk:Nat} (hv:(intItems xs)[argBest num (xs.size-1)]? = some v) (hk:∀b o,s.heap.get? b=some o->h'.get? b=some o):EP X pins σ Q v { s with heap:=h',toks:=tk }:=by
 obtain⟨t,rfl⟩:=intItems_at hv
 have hsz:0<xs.size:=by
  rw[<- ex,A0b,A4b] at hne;exact hne
 refine⟨.int _,H,I.kept hk,⟨_,rfl⟩,q _ ?_ fun a ha=>?_⟩
 ·rw[<- ex,numAt_eq];exact getD_mem (by rw[A0b,A4b];omega)
 ·rw[<- ex] at ha;obtain⟨j,hj,rfl⟩:=mem_getD ha;rw[A0b,A4b] at hj;rw[<- numAt_eq];exact hb.2 j (by omega)
theorem tup_kept {l:Addr}(hT:s.heap.IsTuple l (intItems xs)){h':Heap}(hk:∀b o,b∉[s.heap.objs.size]->(s.heap.push { cls:=.type "tuple_iterator",data:=.fields #[.ref l,.int 0 0] }).get? b=some o->h'.get? b=some o) :
  ∀b o,s.heap.get? b=some o->h'.get? b=some o:=fun b o e=>by
 refine hk b o (fun hm=>?_) (Heap.get?_push_of_some _ e)
 rcases List.mem_cons.mp hm with e1|hm
 ·exact absurd (e1▸A0y e) (A2z _)
 ·cases hm
theorem c6h (ex:xs.toList.map (·.1)=ns)(hne:0<ns.length):0<xs.size:=by
 rw[<- ex,A0b,A4b] at hne;exact hne
theorem call_maxL (hc:X.calm=true):b2z X (.builtin "max") (rBest X.K fun a M=>a<=M):=by
 intro pins s σ H xs us Q I r h;obtain⟨p,ns,rfl,hs,hne,q⟩:=h;obtain⟨u,rfl,ru⟩:=vals1 r;cases ru
 rcases hs with hs|hs
 ·obtain⟨its,ri,pl,_⟩:=I.list hs;obtain⟨xs,e1,e2⟩:=b3b ri;have hl:s.heap.IsList p (intItems xs):=by rw[<- e1];exact pl.isList
  exact max_intList (I.ok.hd hc) hl (c6h e2 hne) fun v h' tk hv hk=>c6c I e2 hne (argBest_gt (numAt xs) (xs.size-1)) q hv hk
 ·obtain⟨its,ri,pl,_⟩:=I.tuple hs;obtain⟨xs,e1,e2⟩:=b3b ri;have hT:s.heap.IsTuple p (intItems xs):=by rw[<- e1];exact pl
  have hlt:p<s.heap.objs.size:=by obtain⟨_,e,_⟩:=hT;exact A0y e
  refine call_max_walk (A8x hT ?_)
  refine⟨_,[_,p],[_],_,_,_,_,rfl,Walks.tuple (A:=X.A.in1) (I.ok.hd hc) _ p (A2r hlt) (intItems xs),⟨⟨_,Heap.get?_push_size _ rfl,rfl,rfl⟩,hT.push _⟩,fun c hc'=>?_,
   by simpa[intItems] using c6h e2 hne,CmpOf.ints_gt (numAt xs) (fun _ _=>intItems_at),fun v h' tk hP hk=>?_⟩
  ·show c<(s.heap.push _).objs.size;rw[A4p]
   rcases List.mem_cons.mp hc' with rfl|hc'
   ·exact A4a _
   ·rcases List.mem_cons.mp hc' with rfl|hc'
    ·exact A6j hlt
    ·cases hc'
  ·exact c6c I e2 hne (argBest_gt (numAt xs) (xs.size-1)) q (by simpa[intItems] using hP) (tup_kept hT hk)
theorem call_minL (hc:X.calm=true):b2z X (.builtin "min") (rBest X.K fun a M=>M<=a):=by
 intro pins s σ H xs us Q I r h;obtain⟨p,ns,rfl,hs,hne,q⟩:=h;obtain⟨u,rfl,ru⟩:=vals1 r;cases ru
 rcases hs with hs|hs
 ·obtain⟨its,ri,pl,_⟩:=I.list hs;obtain⟨xs,e1,e2⟩:=b3b ri;have hl:s.heap.IsList p (intItems xs):=by rw[<- e1];exact pl.isList
  exact min_intList (I.ok.hd hc) hl (c6h e2 hne) fun v h' tk hv hk=>c6c (le:=fun a M=>M<=a) I e2 hne (argBest_lt (numAt xs) (xs.size-1)) q hv hk
 ·obtain⟨its,ri,pl,_⟩:=I.tuple hs;obtain⟨xs,e1,e2⟩:=b3b ri;have hT:s.heap.IsTuple p (intItems xs):=by rw[<- e1];exact pl
  have hlt:p<s.heap.objs.size:=by obtain⟨_,e,_⟩:=hT;exact A0y e
  refine call_min_walk (A8x hT ?_)
  refine⟨_,[_,p],[_],_,_,_,_,rfl,Walks.tuple (A:=X.A.in1) (I.ok.hd hc) _ p (A2r hlt) (intItems xs),⟨⟨_,Heap.get?_push_size _ rfl,rfl,rfl⟩,hT.push _⟩,fun c hc'=>?_,
   by simpa[intItems] using c6h e2 hne,CmpOf.ints_lt (numAt xs) (fun _ _=>intItems_at),fun v h' tk hP hk=>?_⟩
  ·show c<(s.heap.push _).objs.size;rw[A4p]
   rcases List.mem_cons.mp hc' with rfl|hc'
   ·exact A4a _
   ·rcases List.mem_cons.mp hc' with rfl|hc'
    ·exact A6j hlt
    ·cases hc'
  ·exact c6c (le:=fun a M=>M<=a) I e2 hne (argBest_lt (numAt xs) (xs.size-1)) q (by simpa[intItems] using hP) (tup_kept hT hk)
end
def tMethD {ι:Type}(CD:ι->Addr)(spm:ι->Sp)(m:Str)(E:XK)(ta:TE)(t:TA):TE:=fun σ H Q=>ta σ H fun x H1=>∃a d dx fs,x=.ref a/\H1 a=some (.ins (CD d) dx fs)/\fs.lookup m=none/\t σ H1 fun vs H2=>spm d (x::vs) H2 Q E
section
variable {X:Cx}{CX:CXT}{j k:Nat}{ι:Type}{CD:ι->Addr}{spm:ι->Sp}{ps:List Str}{E:XK}{m:Str}{pos apos:Pos}{e o:Expr}{es:List Expr}{ta:TE}{t:TA}
theorem b3p {pl:Sem Bool}(hM:∀d,b3r X.prog X.w X.K X.mg X.base CX k (CD d) m ps (spm d))(hr:b8b j X.A)(hx:b5c CX X E)(he:PE X o ta)(ha:PA X (e::es) t)(hk:k<=j:=by decide)
  (hst:starEach (e::es) X.env=(false,eval e X.env)::starEach es X.env:=by rfl) (hpl:(backTo pos (starEach es X.env)).any (·.1)=false:=by rfl)
  (ht:eval (.Call (.Attribute o m apos) (e::es) [] pos) X.env=(do
   let ov <- eval o X.env
   standAt apos.atName
   let (f,first) <- holding [ov] (getMethod ov m pl)
   callWith pos f first (backTo pos (starEach (e::es) X.env)) (backToKw pos (keywordEach [] X.env))):=by rfl) :
  PE X (.Call (.Attribute o m apos) (e::es) [] pos) (tMethD CD spm m E ta t):=by
 intro pins s σ H Q I h;refine A6a (pl:=pl) (thn (he pins s σ H _ I h) fun u s1 ⟨x,H1,I1,rx,a,d,dx,fs,ex,ea,l,q⟩=>?_) ht;subst ex;obtain rfl:u=A3b a:=rx;have M:=hM d;obtain⟨f,fd,hm,F,b⟩:=M.ex;refine c2w I1 ea M.cl hm l ?_;refine A4w (first:=[.ref a]) (h₀:=X.base) I.ok.mod.kin hm.kp (thn (ha pos pins s1 σ H1 _ I1 q) fun us s2 ⟨vs,H2,I2,r,q2⟩=>⟨I2.kIn,?_⟩) hst hpl;exact run_fn (us:=.ref a::us) (vs:=.ref a::vs) (dvs:=[]) F (hr.mono hk) b .nil hx I2 (.cons rfl r) (by rw[A3d];exact q2)
theorem c9q {pl:Sem Bool}(hM:∀d,b3r X.prog X.w X.K X.mg X.base CX k (CD d) m ps (spm d))(hr:b8b j X.A)(hx:b5c CX X E)(he:PE X o ta)(hk:k<=j:=by decide)
  (ht:eval (.Call (.Attribute o m apos) [] [] pos) X.env=(do
   let ov <- eval o X.env
   standAt apos.atName
   let (f,first) <- holding [ov] (getMethod ov m pl)
   callWith pos f first (backTo pos (starEach [] X.env)) (backToKw pos (keywordEach [] X.env))):=by rfl) :
  PE X (.Call (.Attribute o m apos) [] [] pos) (tMethD CD spm m E ta tNil):=by
 intro pins s σ H Q I h;refine A6a (pl:=pl) (thn (he pins s σ H _ I h) fun u s1 ⟨x,H1,I1,rx,a,d,dx,fs,ex,ea,l,q⟩=>?_) ht;subst ex;obtain rfl:u=A3b a:=rx;have M:=hM d;obtain⟨f,fd,hm,F,b⟩:=M.ex;refine c2w I1 ea M.cl hm l ?_;exact PySem.W.callWith_K0 (first:=[.ref a]) I1.kIn hm.kp (run_fn (us:=[.ref a]) (vs:=[.ref a]) (dvs:=[]) F (hr.mono hk) b .nil hx I1 (.cons rfl .nil) q)
end
section
variable {X:Cx}
end
theorem c5z:bootBuiltins "max" = some (.builtin "max"):=by decide +kernel
theorem boot_min:bootBuiltins "min" = some (.builtin "min"):=by decide +kernel
section
variable {K:A0a}{H:Hp}{Q:VK}{σ:St}{D:c4x}{te ta tv:TE}{tA:TA}{f m:Str}{a C dx:Addr}{fs:List (Str×V)}{v:V}
def rFld (K:A0a)(f:Str)(x:V)(H1:Hp)(Q:VK):Prop:=∃a C dx fs v,x=.ref a/\H1 a=some (.ins C dx fs)/\Cls K C/\a6t K C f/\fs.lookup f=some v/\Q v H1
theorem st_fld (h:ta σ H fun x H1=>rFld K f x H1 Q):tFld K ta f σ H Q:=h
theorem a1y (e:H a=some (.ins C dx fs))(c:Cls K C)(n:a6t K C f)(l:fs.lookup f=some v)(q:Q v H):rFld K f (.ref a) H Q:=⟨a,C,dx,fs,v,rfl,e,c,n,l,q⟩
def rPut (K:A0a)(f:Str)(D:c4x)(σ:St)(y x:V)(H2:Hp):Prop:=∃a C dx fs,x=.ref a/\H2 a=some (.ins C dx fs)/\Cls K C/\a6t K C f/\fs.length<1000/\D.nx σ (upd H2 a (.ins C dx (b2t f y fs)))
theorem st_put (h:tv σ H fun y H1=>ta σ H1 fun x H2=>rPut K f D σ y x H2):sFld K ta tv f D σ H:=h
theorem a9q {y:V}(e:H a=some (.ins C dx fs))(c:Cls K C)(n:a6t K C f)(l:fs.length<1000)(q:D.nx σ (upd H a (.ins C dx (b2t f y fs)))):rPut K f D σ y (.ref a) H:=⟨a,C,dx,fs,rfl,e,c,n,l,q⟩
theorem st_make {sp:Sp}{dvs:List V}(h:tA σ H fun vs H1=>∀x dx,H1 x=none->H1 dx=none->dx≠x->sp (.ref x::(vs++dvs)) (upd (upd H1 dx (.own x)) x (.ins C dx [])) (fun v H2=>v=.non/\Q (.ref x) H2) E):tMake C sp dvs E tA σ H Q:=h
def rMeth {ι:Type}(CD:ι->Addr)(m:Str)(x:V)(H1:Hp)(R:ι->Prop):Prop:=∃a d dx fs,x=.ref a/\H1 a=some (.ins (CD d) dx fs)/\fs.lookup m=none/\R d
theorem st_md {ι:Type}{CD:ι->Addr}{spm:ι->Sp}(h:ta σ H fun x H1=>rMeth CD m x H1 fun d=>tA σ H1 fun vs H2=>spm d (x::vs) H2 Q E):tMethD CD spm m E ta tA σ H Q:=h
theorem a4r {ι:Type}{CD:ι->Addr}{R:ι->Prop}{d:ι}(e:H a=some (.ins (CD d) dx fs))(l:fs.lookup m=none)(q:R d):rMeth CD m (.ref a) H R:=⟨a,d,dx,fs,rfl,e,l,q⟩
end
theorem c9g {x:Addr}(hx:H x=none)(hd:H dx=none):a1n H (upd (upd H dx (.own x)) x (.ins C dx [])):=fun b o e=>by
 rw[a0w (a0j e hx),a0w (a0j e hd)];exact e
section
variable {X:Cx}{M:List Str}{pins:List (Addr×Obj)}{σ:St}{H:Hp}{s:Shared}{scope:Scope}{x x2:Str}
end
def tComp2 (K:A0a)(wi:TI)(tt:TT)(te:TE):TE:=fun σ H Q=>wi σ H fun J H1=>∃W:Nat->Nat->List V->Hp->Prop,(∃m,W 0 m [] H1)/\∀i m ys H,W i m ys H->
 (J.stop i H/\∀p,H p=none->Q (.ref p) (upd H p (.lst ys)))\/
 (J.go i H/\ys.length<sizeLine/\∃N:List V->Hp->Prop,(∀ys' H',N ys' H'->∃m',m'<m/\W (i+1) m' ys' H')/\
  ∀x H',J.yld i H x H'->∃a v w,x=.ref a/\SqT K H' a [v,w]/\tt (some v::some w::σ) H' fun b H2=>if b=true then te (some v::some w::σ) H2 fun y H3=>N (ys++[y]) H3 else N ys H2)
section
variable {X:Cx}{M:List Str}{scope:Scope}{x x2:Str}{px px2 ptg pos:Pos}{tk:Nat}{elt iter:Expr}{ifs:List Expr}{wi:TI}{tt:TT}{te:TE}
end
def dV:V->PyData
 | .bl b=>.bool b
 | .int i=>.int i
 | .str x=>.str x
 | _=>.none
def okV:V->Bool
 | .non=>true
 | .bl _=>true
 | .int _=>true
 | .str x=>PyData.strOk x
 | _=>false
theorem okV_flat:∀{x:V},okV x=true->c5p x=true
 | .non,_=>rfl
 | .bl b,_=>rfl
 | .int i,_=>rfl
 | .str x,_=>rfl
theorem dv_flat :∀{x:V},okV x=true->DV K H x (dV x)
 | .non,_=>.non
 | .bl b,_=>.bl b
 | .int i,_=>.int i
 | .str x,_=>.str x
theorem dvs_flat {K:A0a}{H:Hp}:∀{xs:List V},xs.all okV=true->DVs K H xs (xs.map dV)
 | [],_=>.nil
 | x::xs,h=>by
  rw[A5m,A2h] at h;exact .cons (dv_flat h.1) (dvs_flat h.2)
theorem dV_lay (h:okV x=true):(dV x).canLay0=true:=by
 cases x<;>first|(simp[dV,A9k];done)|(simp only[dV,A9k];exact h)|cases h
theorem dV_depth (x:V):(dV x).depth=0:=by cases x<;>simp[dV,B2e]
theorem dVs_lay:∀{xs:List V},xs.all okV=true->A7s (xs.map dV)=true
 | [],_=>rfl
 | x::r,h=>by
  rw[A5m,A2h] at h;simp[A7s,dV_lay h.1,dVs_lay h.2]
theorem dVs_depth:∀xs:List V,A7e (xs.map dV)=0
 | []=>rfl
 | x::r=>by simp[A7e,dV_depth x,dVs_depth r]
theorem dV_eqv (x:V):A4v (dV x) (dV x)=true:=by cases x<;>simp[dV,A4v]
theorem dVs_eqv:∀xs:List V,A2x (xs.map dV) (xs.map dV)=true
 | []=>rfl
 | x::r=>by simp[A2x,dV_eqv x,dVs_eqv r]
section
variable {K:A0a}{H:Hp}{Q:VK}{σ:St}{D:c4x}{a b t u:Addr}{xs ys:List V}
theorem st_slT {lo hi:Option Int}(s:SqT K H a xs)(c:¬(HT.sIx xs.length 0 lo=0/\HT.sIx xs.length xs.length hi=xs.length))(h:∀p,H p=none->Q (.ref p) (upd H p (.tup (c7g xs lo hi)))):rSlT K (.ref a) lo hi H Q:=⟨a,xs,rfl,s,c,h⟩
theorem st_catT (ha:SqT K H a xs)(hb:SqT K H b ys)(hx:xs≠[])(hy:ys≠[])(hl:xs.length+ys.length<=1000)(q:∀p,H p=none->Q (.ref p) (upd H p (.tup (xs++ys)))):rCatT K (.ref a) (.ref b) H Q:=
 ⟨a,b,xs,ys,rfl,rfl,ha,hb,hx,A3q (a3n hl),fun z=>(hy z).elim,fun _=>q⟩
theorem st_bestT {le:Int->Int->Prop}(s:SqT K H a (ns.map V.int))(h0:0<ns.length)(q:∀M,M∈ns->(∀a∈ns,le a M)->Q (.int M) H):rBest K le [.ref a] H Q:=⟨a,ns,rfl,.inr s,h0,q⟩
theorem st_bestL {le:Int->Int->Prop}(s:SqL K H a (ns.map V.int))(h0:0<ns.length)(q:∀M,M∈ns->(∀a∈ns,le a M)->Q (.int M) H):rBest K le [.ref a] H Q:=⟨a,ns,rfl,.inl s,h0,q⟩
theorem st_inTab {T:List (Str×Int)}(h:Tab K a T)(q:Q (.bl (neg != (tabAt k T).isSome)) H):rInTab K neg (.str k) (.ref a) H Q:=⟨k,a,T,rfl,rfl,h,q⟩
theorem st_ixTab {T:List (Str×Int)}{i:Int}(h:Tab K a T)(e:tabAt k T=some i)(q:Q (.int i) H):rIxTab K (.ref a) (.str k) H Q:=⟨k,a,T,i,rfl,rfl,h,e,q⟩
theorem st_inT (s:SqT K H a xs)(hx:c5p x=true)(hs:xs.all c5p=true)(q:Q (.bl (if neg then !inV x xs else inV x xs)) H):rIn K neg x (.ref a) H Q:=⟨a,xs,rfl,.inr s,hx,hs,q⟩
def rIntB:List V->Hp->VK->Prop:=fun xs H Q=>∃k,xs=[.bl k]/\Q (.int (Tw.bI k)) H
theorem st_intB {k:Bool}(q:Q (.int (Tw.bI k)) H):rIntB [.bl k] H Q:=⟨k,rfl,q⟩
theorem st_extend {zs:List V}(h:H a=some (.lst xs))(hb:H b=some (.lst zs))(hz:xs.length+zs.length<=1000)(hn:a≠b)(q:Q .non (upd H a (.lst (xs++zs)))):rExtend (.ref a) [.ref b] H Q:=by
 refine⟨a,b,xs,zs,rfl,rfl,h,hb,?_⟩
 first
 | exact⟨A3q (a3n hz),q⟩
 | exact⟨hn,A3q (a3n hz),q⟩
 | exact⟨A3q (a3n hz),hn,q⟩
end
section
variable {X:Cx}
theorem call_intB:b2z X (.type "int") rIntB:=by
 intro pins s σ H xs us Q I r h;obtain⟨k,rfl,q⟩:=h;refine call_int1 pins s σ H [.bl k] us Q I r (.inr ⟨k,rfl,?_⟩);cases k<;>exact q
end
theorem ite_t {c A B:Prop} [Decidable c](h:c)(a:A):if decide c=true then A else B:=by
 rw[decide_eq_true h];exact iteT a
theorem ite_f {c A B:Prop} [Decidable c](h:¬c)(b:B):if decide c=true then A else B:=by
 rw[decide_eq_false h];exact iteF b
theorem cut1 (x:V)(xs:List V):c7g (x::xs) (some 1) none=xs:=by
 unfold c7g;rw[HT.sIx_none,show (some (1:Int))=some ((1:Nat):Int) from rfl,HT.sIx_nat];simp
section
variable {K:A0a}{H:Hp}{Q:VK}{a:Addr}{xs:List V}
theorem st_tl (s:SqT K H a (x::xs))(h:∀p,H p=none->Q (.ref p) (upd H p (.tup xs))):rSlT K (.ref a) (some 1) none H Q:=
 st_slT s (fun z=>by rw[show (some (1:Int))=some ((1:Nat):Int) from rfl,HT.sIx_nat] at z;have:=z.1;simp at this) (by rw[cut1];exact h)
end
theorem same_init {x t:Addr}{o2:HO}(hx:H x=none)(hd:H dx=none)(ht:(upd (upd H dx (.own x)) x (.ins C dx [])) t=none):a1n H (upd (upd (upd (upd H dx (.own x)) x (.ins C dx [])) t o) x o2):=by
 intro b u e;have e2:=c9g (C:=C) hx hd b u e;rw[a0w (a0j e hx),a0w (a0j e2 ht)];exact e2
theorem at0 (x:V)(xs:List V):atI (x::xs) 0=some x:=b9u (j:=0) rfl
theorem at1 (x y:V)(xs:List V):atI (x::y::xs) 1=some y:=b9u (j:=1) rfl
theorem all_get {f:V->Bool}{xs:List V}(h:xs.all f=true)(e:xs[i]? = some x):f x=true:=List.all_eq_true.mp h _ (List.mem_of_getElem? e)
theorem a0s {α:Type}{xs:List α}{x:α}(e:xs[i]? = some x):xs.take (i+1)=xs.take i++[x]:=by
 rw[A9u,e];rfl
theorem c8y (e:(is.map V.int)[i]? = some x):∃j,x=.int j:=by
 rw[List.getElem?_map] at e
 cases h:is[i]? with
 | none=>rw[h] at e;cases e
 | some j=>rw[h] at e;exact⟨j,(A0s e).symm⟩
theorem d4z (n:Nat):(A1u n true).all id=true:=by simp
theorem len1 (h:is.length=1):∃i,is=[i]:=by
 match is,h with
 | [i],_=>exact⟨i,rfl⟩
theorem len2 (h:is.length=2):∃i j,is=[i,j]:=by
 match is,h with
 | [i,j],_=>exact⟨i,j,rfl⟩
section
variable {K:A0a}{a:Addr}{xs:List V}{tl te:TE}{tt:TT}{Q:VK}{σ:St}{H:Hp}
end
def ItEn (K:A0a)(a:Addr)(n:Nat):It:=
 ⟨fun i H=>∃xs x,SqL K H a xs/\xs.length=n/\xs[i]? = some x,fun i H x H'=>∃T v,H T=none/\x=.ref T/\(∀xs,SqL K H a xs->xs[i]? = some v)/\H'=upd H T (.tup [.int (i:Int),v]),fun i H=>∃xs,SqL K H a xs/\xs.length=n/\n<=i⟩
theorem Inv.list_ne {X:Cx}{s:Shared}(I:Inv X pins σ H s){fp:List Addr}(hf:∀b∈fp,FpOk X pins H b){a:Addr}{xs:List V}(hq:SqL X.K H a xs):∀b∈fp,a≠b:=fun b hb z=>by
 subst z;obtain⟨f0,_,_,f3,_⟩:=hf a hb
 rcases hq with (h|⟨o,h⟩)|⟨o,_,_,h,_⟩
 ·rw[f0] at h;cases h
 ·rw[f0] at h;cases h
 ·have e:=I.ok.mod.kin a o h
  rcases f3 with q|q
  ·exact I.ok.noex a o e q
  ·exact Nat.not_le.mpr (A0c (A0y e) I.ok.bsz) q
theorem turn_enumL (a e it:Addr)(hne:e≠it)(n:Nat) :
  Turn P w K (.Tuple elts kk tpos) (ItEn K a n) [e,it] e (fun i h=>((∃old,IsEnum h e it i old)/\h.IsListIter it a i)/\i<=n) where
 mem:=by simp
 obj:=fun i h st b hb=>by
  rcases List.mem_cons.mp hb with r|r
  ·subst r;obtain⟨⟨⟨old,q⟩,_⟩,_⟩:=st
   exact⟨_,q,fun v z=>by
    have z':Data.fields _=Data.cell v:=z
    cases z'⟩
  ·have r':b=it:=by simpa using r
   subst r';obtain⟨⟨_,⟨o,q,c,d⟩⟩,_⟩:=st;exact⟨o,q,fun v q=>by rw[d] at q;cases q⟩
 keep:=fun i h h' st k=>by
  obtain⟨⟨⟨old,q⟩,⟨o,q2,r⟩⟩,l⟩:=st;exact⟨⟨⟨old,k e (by simp) _ q⟩,⟨o,k it (by simp) o q2,r⟩⟩,l⟩
 item:=by
  intro X hP hw hK hc i pins s σ H E I hf st hg;subst hP hw hK;obtain⟨xs,x0,hq,hn,hx⟩:=hg;obtain⟨its,rv,pl,hz⟩:=I.list hq;have hl:=rv.length
  have hil:i<its.toArray.size:=by
   have:=(List.getElem?_eq_some_iff.mp hx).1;rw[A0z];omega
  have al:=I.list_ne hf hq;have D:=Draws.list (prog:=X.prog) (w:=X.w) (A:=X.A.in1) (I.ok.hd hc) it a (al it (by simp)) its.toArray;have W:=A7q (A:=X.A) D e hne (by simp only[A1n,A4j,or_false,not_or];exact⟨hne,A4m (al e (by simp))⟩) (by simp);refine W.item i s _ _ hil ⟨st.1.1,st.1.2,pl.isList⟩ fun T vals h' tk hv hT htup mid kk'=>?_;obtain⟨t1,u,hu,rfl⟩:=hv;obtain⟨u0,hu0,ru⟩:=rv.get hx
  have eu:u=u0:=by
   have h1:its[i]? = some u:=by simpa using hu
   rw[hu0] at h1;exact(A0s h1).symm
  subst eu;refine⟨_,rfl,W.go elts kk tpos i T _ _ _ mid fun h2 st2 k2=>?_⟩;have hTw:=W.apart i T _ mid;have hH:H T=none:=I.hok.fresh hT;have kept:∀b o,b∉[e,it]->s.heap.get? b=some o->h2.get? b=some o:=fun b o hb q=>k2 b o hb (kk' b o hb q)
  have ntr:∀b v,H b=some v->b∉[e,it]:=fun b v q hb=>by
   have:=(hf b (by simpa using hb)).1;rw[q] at this;cases this
  have bT:∀b o,s.heap.get? b=some o->b≠T:=fun b o q=>A2r (A0c (A0y q) hT);obtain⟨oT,eT,cT,nT,dT⟩:=htup;have eT2:=k2 T oT hTw eT
  have un:Un (frs X.stack) [e,it] H (upd H T (.tup [.int (i:Int),x0])) s.heap h2:=
   ⟨fun b o q _ _ n3=>kept b o n3 q,fun b o q _ _ n3=>⟨o.slots,kept b o n3 q⟩,fun b o q n _=>by rw[a0w (bT b o q)];exact n,fun b o q n3=>⟨o,kept b o n3 q⟩,
    fun b xs q=>by rw[a0w (a0j q hH)];exact q,fun b o v q=>by rw[a0w (a0j q hH)];exact q,fun b ps q=>⟨#[],by rw[a0w (a0j q hH),q];simp⟩⟩
  have hok:HOk X.prog X.w (upd H T (.tup [.int (i:Int),x0])) h2:=fun b v q=>by
   by_cases hb:b=T
   ·subst hb;rw[a0d] at q;cases q;exact⟨A3q (a3n (show (2:Nat)<=1000 by decide)),[.int (i:Int) t1,u],.cons ⟨_,rfl⟩ (.cons ru .nil),oT,eT2,cT,nT,dT⟩
   ·rw[a0w hb] at q;refine(I.hok b v q).stay (fun c' v' hc2 q'=>?_) (fun c' q'=>by rw[a0w (a0j q' hH)];exact q') fun c' xs q'=>by rw[a0w (a0j q' hH)];exact q'
    rcases hc2 with r|r
    ·subst r;exact kept _ _ (ntr _ _ q) q'
    ·exact kept _ _ (ntr _ _ r) q'
  refine⟨.ref T,_,I.call' (s':={ s with heap:=h2,toks:=tk }) rfl un hok I.bare (fun b hb=>?_),rfl,⟨T,x0,hH,rfl,fun ys hy=>by rw[I.list_inj hy hq];exact hx,rfl⟩,⟨⟨st2.1,st2.2.1⟩,by rw[A0z] at hil;omega⟩,fun b hb=>?_⟩
  ·obtain⟨f0,f1,f2,f3,f4,f5⟩:=hf b hb;exact⟨f3,f1,f4,f5⟩
  ·have hbT:b≠T:=fun q=>hTw (by rw[<- q];exact hb);rw[a0w hbT];exact(hf b hb).1
 done:=by
  intro X hP hw hK hc i pins s σ H E I hf st hg;subst hP hw hK;obtain⟨xs,hq,hn,hg⟩:=hg;obtain⟨its,rv,pl,hz⟩:=I.list hq;have hl:=rv.length;have al:=I.list_ne hf hq;have D:=Draws.list (prog:=X.prog) (w:=X.w) (A:=X.A.in1) (I.ok.hd hc) it a (al it (by simp)) its.toArray;have W:=A7q (A:=X.A) D e hne (by simp only[A1n,A4j,or_false,not_or];exact⟨hne,A4m (al e (by simp))⟩) (by simp);have ei:i=its.toArray.size:=by have:=st.2;rw[A0z];omega
  refine W.done s _ _ (ei▸⟨st.1.1,st.1.2,pl.isList⟩) fun h2 tk kk'=>⟨rfl,?_⟩
  have ntr:∀b v,H b=some v->b∉[e,it]:=fun b v q hb=>by
   have:=(hf b (by simpa using hb)).1;rw[q] at this;cases this
  have un:Un (frs X.stack) [e,it] H H s.heap h2:=
   ⟨fun b o q _ _ n3=>kk' b o n3 q,fun b o q _ _ n3=>⟨o.slots,kk' b o n3 q⟩,fun b o q n _=>n,fun b o q n3=>⟨o,kk' b o n3 q⟩,fun _ _ q=>q,fun _ _ _ q=>q,fun b ps q=>⟨#[],by rw[q];simp⟩⟩
  have hok:HOk X.prog X.w H h2:=fun b v q=>by
   refine(I.hok b v q).stay (fun c' v' hc2 q'=>?_) (fun _ q'=>q') fun _ _ q'=>q'
   rcases hc2 with r|r
   ·subst r;exact kk' _ _ (ntr _ _ q) q'
   ·exact kk' _ _ (ntr _ _ r) q'
  exact I.call' (s':={ s with heap:=h2,toks:=tk }) rfl un hok I.bare fun b hb=>by
   obtain⟨f0,f1,f2,f3,f4,f5⟩:=hf b hb;exact⟨f3,f1,f4,f5⟩
 self:=fun _ _ _ _ _ st h=>by
  obtain⟨⟨⟨old,q⟩,_⟩,_⟩:=st;exact A7r q h
section
variable {X:Cx}{tg:Expr}
def iEnumL (K:A0a)(ta:TA):TI:=fun σ H R=>ta σ H fun vs H1=>∃a xs,vs=[.ref a]/\SqL K H1 a xs/\R (ItEn K a xs.length) H1
theorem boot_enumL:bootBuiltins "enumerate" = some (.type "enumerate"):=by decide +kernel
theorem pi_enumL (hg:Gl X "enumerate")(hm:X.mg "enumerate" = none)(ha:PA X [a] ta)(hs:starEach [a] X.env=[(false,eval a X.env)]:=by rfl) :
  PI X (.Tuple elts kk tpos) (.Call (.Name "enumerate" p) [a] [] pos) (iEnumL X.K ta):=by
 intro pins s σ H R I h;refine Call_ (c4f I hg hm boot_enumL (A3c (thn (ha pos pins s σ H _ I h) fun us s1 ⟨vs,H1,I1,r1,q1⟩=>?_) hs rfl));obtain⟨b,xs,rfl,hq,q⟩:=q1;obtain⟨u,rfl,ru⟩:=a5q.one r1;cases ru;obtain⟨its,rv,pl,hz⟩:=I1.list hq;refine call_enumerate_list pl.isList fun h' he hit hsz hk=>?_;refine A7r he ?_;refine⟨s1.heap.objs.size+1,[s1.heap.objs.size+1,s1.heap.objs.size],_,_,H1,rfl,I1.kept (t':=s1.toks) hk,turn_enumL b _ _ (Nat.succ_ne_self _) xs.length,⟨⟨⟨_,he⟩,hit⟩,A1v _⟩,fun c hb=>?_,q⟩
 have hb':s1.heap.objs.size<=c:=by
  rcases List.mem_cons.mp hb with r|r
  ·rw[r];exact A5x _
  ·have:c=s1.heap.objs.size:=by simpa using r
   rw[this];exact A0k _
 exact I1.fpOk hb' (I1.hok.fresh hb')
end
section
variable {K:A0a}{a:Addr}{xs:List V}{g:TG}{tb:TS}{D:c4x}{σ:St}{H:Hp}
end
section
variable {M:Model}{A:Around}{E:Value->Shared->Prop}{s:Shared}{base:Heap}{env:Env}{outer:List Env}{L e:Addr}{cls a0 fl:Value}
end
section
variable {X:Cx}{scope:Scope}{x:Str}{px pos:Pos}{elt iter:Expr}{ifs:List Expr}{wi:TI}{tt:TT}{te:TE}{E:XK}
end
section
variable {H:Hp}{Q:VK}{n m:Nat}{p q:Bool}
theorem st_xorNB (h:Q (.int ((n^^^p.toNat:Nat):Int)) H):rI0 (fun i j=>.int (A3x i j)) (.int (n:Int)) (.int (Tw.bI p)) H Q:=d7a (by
 rw[Tw.d3d,b7z];exact h)
theorem st_xorBB (h:Q (.int (Tw.bI (p ^^ q))) H):rI0 (fun i j=>.int (A3x i j)) (.int (Tw.bI p)) (.int (Tw.bI q)) H Q:=d7a (by
 rw[Tw.d3d,Tw.d3d,b7z];have e:((p.toNat^^^q.toNat:Nat):Int)=Tw.bI (p ^^ q):=by cases p<;>cases q<;>rfl
 rw[e];exact h)
theorem st_sub1B (h:Q (.int (Tw.bI (!q))) H):rI0 (fun i j=>.int (i-j)) (.int 1) (.int (Tw.bI q)) H Q:=d7a (by
 have e:(1:Int)-Tw.bI q=Tw.bI (!q):=by cases q<;>rfl
 rw[e];exact h)
end
end L2
namespace Tw
open PySem L2
inductive DK where
 | over|quarter|back|both|wher|swap
 deriving DecidableEq
def DK.word:DK->Str
 | .over=>"over" | .quarter=>"quarter" | .back=>"back" | .both=>"both" | .wher=>"where" | .swap=>"swap"
def DK.undo:DK->Str
 | .over=>"over" | .quarter=>"back" | .back=>"quarter" | .both=>"both" | .wher=>"where" | .swap=>"swap"
def DK.n:DK->Nat
 | .over=>1|.quarter=>1|.back=>1|.both=>1|.wher=>2|.swap=>2
def DK.inv:DK->DK
 | .quarter=>.back|.back=>.quarter|k=>k
theorem DK.undo_inv (k:DK):k.undo=k.inv.word:=by cases k<;>rfl
def tabW:List (Str×Int):=[("over",1),("quarter",1),("back",1),("both",1),("where",2),("swap",2)]
theorem tab_word (k:DK):tabAt k.word tabW=some (k.n:Int):=by cases k<;>decide +kernel
theorem DK.n_pos (k:DK):0<k.n/\k.n<=2:=by cases k<;>decide
def vn (l:List Nat):List V:=l.map fun k=>V.int ((k:Nat):Int)
theorem vn_ints (l:List Nat):vn l=(l.map fun k:Nat=>(k:Int)).map V.int:=by unfold vn;rw[A3u];rfl
theorem a6z (l:List Nat):(vn l).length=l.length:=by unfold vn;rw[A0b]
structure Dd where
 k:DK
 w:List Nat
structure Dd.Ok (d:Dd)(n:Nat):Prop where
 len:d.w.length=d.k.n
 lt:∀x∈d.w,x<n
 nd:d.w.Nodup
def flds (k:DK)(t:Addr):List (Str×V):=[("word",.str k.word),("undoer",.str k.undo),("at",.ref t)]
theorem flds_word (k:DK)(t:Addr):(flds k t).lookup ("word":Str)=some (.str k.word):=rfl
theorem flds_undoer (k:DK)(t:Addr):(flds k t).lookup ("undoer":Str)=some (.str k.undo):=by
 unfold flds;rw[A1g,show (("undoer":Str) == "word")=false by decide +kernel];rfl
theorem b0h (k:DK)(t:Addr):(flds k t).lookup ("at":Str)=some (.ref t):=by
 unfold flds;rw[A1g,show (("at":Str) == "word")=false by decide +kernel];show A4d ("at":Str) [(("undoer":Str),V.str k.undo),("at",.ref t)]=_;rw[A1g,show (("at":Str) == "undoer")=false by decide +kernel];rfl
theorem c7u (k:DK)(t:Addr){m:Str}(h1:(m == "word")=false)(h2:(m == "undoer")=false)(h3:(m == "at")=false):(flds k t).lookup m=none:=by
 unfold flds;rw[A1g,h1];show A4d m [(("undoer":Str),V.str k.undo),("at",.ref t)]=_;rw[A1g,h2];show A4d m [(("at":Str),V.ref t)]=_;rw[A1g,h3];rfl
theorem flds_put (w u:Str)(t:Addr):b2t "at" (.ref t) (b2t "undoer" (.str u) (b2t "word" (.str w) []))=([("word",.str w),("undoer",.str u),("at",.ref t)]:List (Str×V)):=by
 have h1:¬(("word":Str) = "undoer"):=by decide +kernel
 have h2:¬(("word":Str) = "at"):=by decide +kernel
 have h3:¬(("undoer":Str) = "at"):=by decide +kernel
 simp only[b2t,if_neg h1,if_neg h2,if_neg h3]
def d6y (CD:DK->Addr)(H:Hp)(a:Addr)(d:Dd):Prop:=∃dx t,H a=some (.ins (CD d.k) dx (flds d.k t))/\H t=some (.tup (vn d.w))/\d.w.length=d.k.n
theorem d6y.same {CD:DK->Addr}{H H':Hp}{a:Addr}{d:Dd}(h:d6y CD H a d)(s:a1n H H'):d6y CD H' a d:=by
 obtain⟨dx,t,h1,h2,h3⟩:=h;exact⟨dx,t,s _ _ h1,s _ _ h2,h3⟩
def WdAt (H:Hp)(a:Addr)(k:DK)(is:List Int):Prop:=H a=some (.tup (.str k.word::is.map V.int))/\is.length=k.n/\is.Nodup
def WN (K:A0a)(H:Hp)(v:V)(b:Bool):Prop:=∃t b1 b2,c5j K H v t/\A2p K t (.type "int")=some b1/\A2p K t (.type "bool")=some b2/\b=(b1 && !b2)
theorem WN.int (K:A0a)(H:Hp)(i:Int):WN K H (.int i) true:=⟨_,true,false,.int i,c7d,c3y,rfl⟩
theorem WN.bl (K:A0a)(H:Hp)(i:Bool):WN K H (.bl i) false:=⟨_,true,true,.bl i,c4d,c0p,rfl⟩
theorem WN.str (K:A0a)(H:Hp)(i:Str):WN K H (.str i) false:=⟨_,false,false,.str i,c8z,c3s,rfl⟩
theorem WN.non (K:A0a)(H:Hp):WN K H .non false:=⟨_,false,false,.non,b5f,b3k,rfl⟩
def wnB:V->Bool
 | .int _=>true
 | _=>false
theorem WN.flat (K:A0a)(H:Hp):∀{v:V},c5p v=true->WN K H v (wnB v)
 | .int i,_=>WN.int K H i
 | .bl i,_=>WN.bl K H i
 | .str i,_=>WN.str K H i
 | .non,_=>WN.non K H
def a7f (K:A0a):Sp:=fun vs H Q _=>∃v b,vs=[v]/\WN K H v b/\Q (.bl b) H
def a9m (K:A0a)(CD:DK->Addr):Sp:=fun vs H Q _=>∃p w u t,vs=[.ref p,.str w,.str u,.ref t]/\∃k dx,H p=some (.ins (CD k) dx [])/\Q .non (upd H p (.ins (CD k) dx [("word",.str w),("undoer",.str u),("at",.ref t)]))
def c1b (K:A0a)(CD:DK->Addr)(k:DK):Sp:=fun vs H Q _=>∃(p:Addr) (j:Nat),vs=[.ref p,.int j]/\∃dx,H p=some (.ins (CD k) dx [])/\∀t,H t=none->Q .non (upd (upd H t (.tup (vn [j]))) p (.ins (CD k) dx (flds k t)))
def d4w (K:A0a)(CD:DK->Addr)(k:DK):Sp:=fun vs H Q _=>∃(p:Addr) (j i:Nat),vs=[.ref p,.int j,.int i]/\∃dx,H p=some (.ins (CD k) dx [])/\∀t,H t=none->Q .non (upd (upd H t (.tup (vn [j,i]))) p (.ins (CD k) dx (flds k t)))
abbrev a9e (K:A0a)(CD:DK->Addr):Sp:=c1b K CD .over
abbrev a6h (K:A0a)(CD:DK->Addr):Sp:=c1b K CD .quarter
abbrev a9k (K:A0a)(CD:DK->Addr):Sp:=c1b K CD .back
abbrev a9p (K:A0a)(CD:DK->Addr):Sp:=c1b K CD .both
abbrev a8a (K:A0a)(CD:DK->Addr):Sp:=d4w K CD .wher
abbrev a9h (K:A0a)(CD:DK->Addr):Sp:=d4w K CD .swap
def c1t (K:A0a)(CD:DK->Addr):Sp:=fun vs H Q _=>∃a d,vs=[.ref a]/\d6y CD H a d/\∀p,H p=none->Q (.ref p) (upd H p (.lst (vn d.w)))
abbrev d2d (K:A0a)(CD:DK->Addr)(_:DK):Sp:=c1t K CD
def c1g (K:A0a)(CD:DK->Addr):Sp:=fun vs H Q _=>∃a d,vs=[.ref a]/\d6y CD H a d/\∀p H',a1n H H'->H' p=some (.tup (.str d.k.word::vn d.w))->Q (.ref p) H'
abbrev d3e (K:A0a)(CD:DK->Addr)(_:DK):Sp:=c1g K CD
def b6v (K:A0a)(CD:DK->Addr):Sp:=fun vs H Q _=>∃a d,vs=[.ref a]/\d6y CD H a d/\∀p t H',a1n H H'->H p=none->H' p=some (.lst [.ref t])->H' t=some (.tup (.str d.k.undo::vn d.w))->Q (.ref p) H'
abbrev c4e (K:A0a)(CD:DK->Addr)(_:DK):Sp:=b6v K CD
structure Row where
 m:Nat
 x:Nat
 z:Nat
def Row.V (r:Row):List V:=[.int (r.m:Nat),.int (r.x:Nat),.int (r.z:Nat)]
structure Row.Ok (r:Row)(n:Nat):Prop where
 m:r.m<=1
 x:r.x<2^n
 z:r.z<2^n
def ex (n i j:Nat):Nat:=n^^^(n.testBit i ^^ n.testBit j).toNat*2^i^^^(n.testBit i ^^ n.testBit j).toNat*2^j
def a3j (k:DK)(i j:Nat)(r:Row):Row:=
 match k with
 | .over=>⟨r.m^^^(r.z.testBit i).toNat,r.x,r.z⟩
 | .quarter=>⟨r.m^^^(r.x.testBit i&&r.z.testBit i).toNat,r.x,r.z^^^(r.x.testBit i).toNat*2^i⟩
 | .back=>⟨r.m^^^(r.x.testBit i && !r.z.testBit i).toNat,r.x,r.z^^^(r.x.testBit i).toNat*2^i⟩
 | .both=>⟨r.m^^^(r.x.testBit i&&r.z.testBit i).toNat,r.x^^^(r.x.testBit i ^^ r.z.testBit i).toNat*2^i,r.z^^^(r.x.testBit i ^^ r.z.testBit i).toNat*2^i⟩
 | .wher=>⟨r.m^^^(r.x.testBit i&&r.z.testBit j && !(r.z.testBit i ^^ r.x.testBit j)).toNat,r.x^^^(r.x.testBit i).toNat*2^j,r.z^^^(r.z.testBit j).toNat*2^i⟩
 | .swap=>⟨r.m,ex r.x i j,ex r.z i j⟩
def act (d:Dd)(r:Row):Row:=a3j d.k (d.w.getD 0 0) (d.w.getD 1 0) r
def sp_bit_at (K:A0a):Sp:=fun vs H Q _=>∃n k:Nat,vs=[.int n,.int k]/\Q (.int (bI (n.testBit k))) H
def c4a (K:A0a):Sp:=fun vs H Q _=>∃n i j:Nat,vs=[.int n,.int i,.int j]/\i<=1000/\j<=1000/\Q (.int (ex n i j:Nat)) H
def b4c (K:A0a)(CD:DK->Addr)(k:DK):Sp:=fun vs H Q _=>∃(a b:Addr) (d:Dd) (r:Row),vs=[.ref a,.ref b]/\d.k=k/\d6y CD H a d/\(∀x∈d.w,x<=1000)/\SqT K H b r.V/\∀p H',a1n H H'->H' p=some (.tup (act d r).V)->Q (.ref p) H'
abbrev c9y (K:A0a)(CD:DK->Addr)(k:DK):Sp:=b4c K CD k
abbrev d0b (K:A0a)(CD:DK->Addr):Sp:=b4c K CD .over
abbrev c3d (K:A0a)(CD:DK->Addr):Sp:=b4c K CD .quarter
abbrev d0j (K:A0a)(CD:DK->Addr):Sp:=b4c K CD .back
abbrev d0c (K:A0a)(CD:DK->Addr):Sp:=b4c K CD .both
abbrev c7q (K:A0a)(CD:DK->Addr):Sp:=b4c K CD .wher
abbrev d1r (K:A0a)(CD:DK->Addr):Sp:=b4c K CD .swap
theorem a9s {w:List Nat}(h:w.length=1):∃i,w=[i]:=by
 match w,h with
 | [i],_=>exact⟨i,rfl⟩
theorem b6y {w:List Nat}(h:w.length=2):∃i j,w=[i,j]:=by
 match w,h with
 | [i,j],_=>exact⟨i,j,rfl⟩
end Tw
namespace Tw
theorem d2u (b:Bool)(i k:Nat):(b.toNat*2^i).testBit k=(decide (i=k)&&b):=by
 cases b with
 | false=>simp
 | true=>simp[A2q]
def turn (q:Nat)(p:Int×Int):Int×Int:=
 if q%4=0 then p else if q%4=1 then (-p.2,p.1) else if q%4=2 then (-p.1,-p.2) else (p.2,-p.1)
def clr (b i:Nat):Nat:=b-(b.testBit i).toNat*2^i
theorem ex_tb {b i j k:Nat}(hij:i≠j):(ex b i j).testBit k=if k=i then b.testBit j else if k=j then b.testBit i else b.testBit k:=by
 unfold ex;simp only[A0m,d2u]
 by_cases e:k=i
 ·subst e;simp only[A4m hij,decide_true,decide_false,A9g,A8j,A3j,if_true];cases b.testBit k<;>cases b.testBit j<;>rfl
 ·by_cases e2:k=j
  ·subst e2;simp only[e,A4m e,decide_true,decide_false,A9g,A8j,A3j,if_true,if_false];cases b.testBit k<;>cases b.testBit i<;>rfl
  ·simp[e,e2,A4m e,A4m e2]
theorem m_xor {m:Nat}(h:m<=1)(b:Bool):m^^^b.toNat=if b then 1-m else m:=by
 match m,h with
 | 0,_=>cases b<;>rfl
 | 1,_=>cases b<;>rfl
end Tw
namespace Tw
open PySem L2
theorem b8m {b:Bool}{i n:Nat}(h:i<n):b.toNat*2^i<2^n:=by
 have h1:(2:Nat)^i<2^n:=A1w (by decide) h;have h2:=A0x n;cases b
 ·simpa using h2
 ·simpa using h1
theorem m_le {m:Nat}(h:m<=1)(b:Bool):m^^^b.toNat<=1:=by
 rw[m_xor h];cases b<;>simp<;>omega
theorem actW_ok {k:DK}{i j n:Nat}{r:Row}(ok:r.Ok n)(hi:i<n)(hj:k.n=2->j<n):(a3j k i j r).Ok n:=by
 cases k with
 | over=>exact⟨m_le ok.m _,ok.x,ok.z⟩
 | quarter=>exact⟨m_le ok.m _,ok.x,b6r ok.z (b8m hi)⟩
 | back=>exact⟨m_le ok.m _,ok.x,b6r ok.z (b8m hi)⟩
 | both=>exact⟨m_le ok.m _,b6r ok.x (b8m hi),b6r ok.z (b8m hi)⟩
 | wher=>exact⟨m_le ok.m _,b6r ok.x (b8m (hj rfl)),b6r ok.z (b8m hi)⟩
 | swap=>exact⟨ok.m,b6r (b6r ok.x (b8m hi)) (b8m (hj rfl)),b6r (b6r ok.z (b8m hi)) (b8m (hj rfl))⟩
theorem Dd.Ok.one {d:Dd}{n:Nat}(ok:d.Ok n):d.w.getD 0 0<n/\(d.k.n=2->d.w.getD 1 0<n/\d.w.getD 0 0≠d.w.getD 1 0)/\d.w.getD 0 0∈d.w/\(d.k.n=2->d.w.getD 1 0∈d.w):=by
 obtain⟨k,w⟩:=d;have hl:=ok.len;have hp:=k.n_pos;have hlt:=ok.lt;have hnd:=ok.nd;dsimp only at hl hlt hnd ⊢
 rcases A2t k.n 2 with h|h
 ·obtain⟨i,rfl⟩:=a9s (w:=w) (by omega);exact⟨hlt i (by simp),fun z=>by omega,by simp,fun z=>by omega⟩
 ·obtain⟨i,j,rfl⟩:=b6y (w:=w) (by omega)
  have hij:i≠j:=by
   intro z;subst z;simp at hnd
  exact⟨hlt i (by simp),fun _=>⟨hlt j (by simp),hij⟩,by simp,fun _=>by simp⟩
theorem act_ok {d:Dd}{n:Nat}{r:Row}(ok:r.Ok n)(hd:d.Ok n):(act d r).Ok n:=actW_ok ok hd.one.1 fun e=>(hd.one.2.1 e).1
end Tw
namespace Tw
variable {d:Dd}{ds:List Dd}{a b c i:Nat}{r:Row}
theorem xx (a b:Nat):a^^^b^^^b=a:=by rw[A1m,A1q,A1t]
theorem xx2 (h:c=b):a^^^b^^^c=a:=by rw[h,xx]
theorem c9s {a' b' c':Nat}(h1:a=a')(h2:b=b')(h3:c=c'):(⟨a,b,c⟩:Row)=⟨a',b',c'⟩:=by rw[h1,h2,h3]
theorem actW_undo {k:DK}{j:Nat}(hj:k.n=2->i≠j):a3j k.inv i j (a3j k i j r)=r:=by
 obtain⟨m,x,z⟩:=r;have td:∀q:Nat,decide (q=q)=true:=fun q=>decide_eq_true rfl
 cases k with
 | over=>exact c9s (xx _ _) rfl rfl
 | quarter=>
  refine c9s (xx2 ?_) rfl (xx2 rfl);simp only[a3j,A0m,d2u,td];cases x.testBit i<;>cases z.testBit i<;>rfl
 | back=>
  refine c9s (xx2 ?_) rfl (xx2 rfl);simp only[a3j,A0m,d2u,td];cases x.testBit i<;>cases z.testBit i<;>rfl
 | both=>
  refine c9s (xx2 ?_) (xx2 ?_) (xx2 ?_)<;>simp only[a3j,A0m,d2u,td]
  ·cases x.testBit i<;>cases z.testBit i<;>rfl
  ·cases x.testBit i<;>cases z.testBit i<;>rfl
  ·cases x.testBit i<;>cases z.testBit i<;>rfl
 | wher=>
  have hij:=hj rfl;have d1:decide (j=i)=false:=decide_eq_false (A4m hij);have d2:decide (i=j)=false:=decide_eq_false hij;refine c9s (xx2 ?_) (xx2 ?_) (xx2 ?_)<;>simp only[a3j,A0m,d2u,td,d1,d2]
  ·cases x.testBit i<;>cases z.testBit i<;>cases x.testBit j<;>cases z.testBit j<;>rfl
  ·simp
  ·simp
 | swap=>
  have hij:=hj rfl
  have e:∀b,ex (ex b i j) i j=b:=fun b=>by
   apply A1h;intro k;rw[ex_tb hij,ex_tb hij,ex_tb hij,ex_tb hij]
   by_cases e:k=i
   ·subst e;simp[A4m hij]
   ·by_cases e2:k=j
    ·subst e2;simp[e]
    ·simp[e,e2]
  exact c9s rfl (e _) (e _)
theorem DK.inv_inv (k:DK):k.inv.inv=k:=by cases k<;>rfl
theorem DK.inv_n (k:DK):k.inv.n=k.n:=by cases k<;>rfl
def Dd.inv (d:Dd):Dd:=⟨d.k.inv,d.w⟩
theorem Dd.Ok.inv {d:Dd}{n:Nat}(h:d.Ok n):d.inv.Ok n:=⟨h.len.trans d.k.inv_n.symm,h.lt,h.nd⟩
theorem act_inv {n:Nat}(h:d.Ok n):act d.inv (act d r)=r:=actW_undo fun e=>(h.one.2.1 e).2
theorem inv_inv (d:Dd):d.inv.inv=d:=by
 obtain⟨k,w⟩:=d;show (⟨k.inv.inv,w⟩:Dd)=_;rw[DK.inv_inv]
def acts (ds:List Dd)(r:Row):Row:=ds.foldl (fun r d=>act d r) r
def undo (ds:List Dd):List Dd:=(ds.map Dd.inv).reverse
theorem acts_snoc (ds:List Dd)(d:Dd)(r:Row):acts (ds++[d]) r=act d (acts ds r):=by unfold acts;rw[A9v];rfl
theorem d3p {n:Nat}(h:∀d∈ds,d.Ok n):∀d∈undo ds,d.Ok n:=fun d hd=>by
 unfold undo at hd;rw[List.mem_reverse,A0r] at hd;obtain⟨e,he,rfl⟩:=hd;exact(h e he).inv
theorem undo_len (ds:List Dd):(undo ds).length=ds.length:=by unfold undo;rw[List.length_reverse,A0b]
theorem a6a {n:Nat}:∀{ds:List Dd},(∀d∈ds,d.Ok n)->∀r,acts (undo ds) (acts ds r)=r
 | [],_,_=>rfl
 | d::ds,h,r=>by
  have e:undo (d::ds)=undo ds++[d.inv]:=by unfold undo;rw[A2a,A6k]
  rw[e,acts_snoc];show act d.inv (acts (undo ds) (acts ds (act d r)))=r;rw[a6a (fun x hx=>h x (A0e _ hx)),act_inv (h d A0d)]
theorem undo_undo (ds:List Dd):undo (undo ds)=ds:=by
 unfold undo;rw[A8a,A8e,A3u];have:(Dd.inv∘Dd.inv)=id:=funext inv_inv;rw[this,List.map_id]
theorem acts_undo' {n:Nat}(h:∀d∈ds,d.Ok n)(r:Row):acts ds (acts (undo ds) r)=r:=by
 have:=a6a (d3p h) r;rw[undo_undo] at this;exact this
theorem b9a {n:Nat}:∀{ds:List Dd} {r:Row},r.Ok n->(∀d∈ds,d.Ok n)->(acts ds r).Ok n
 | [],_,h,_=>h
 | d::ds,r,h,hd=>b9a (ds:=ds) (act_ok h (hd d A0d)) fun x hx=>hd x (A0e _ hx)
theorem acts_take (r:Row)(h:ds[i]? = some d):acts (ds.take (i+1)) r=act d (acts (ds.take i) r):=by
 rw[L2.a0s h,acts_snoc]
end Tw
namespace Tw
open PySem L2
variable {f:Addr}{d:Dd}{H H' H1:Hp}{xs:List V}
def But (f:Addr)(H H':Hp):Prop:=∀c o,c≠f->H c=some o->H' c=some o
theorem But.same {H0:Hp}(s:a1n H0 H)(h:But f H H')(n:H0 f=none):a1n H0 H':=fun c o e=>h c o (a0j e n) (s c o e)
theorem But.upd {f:Addr}{H:Hp}{o:HO}:But f H (L2.upd H f o):=fun c u hc e=>by rw[a0w hc];exact e
inductive a2a {α β:Type} (R:α->β->Prop):List α->List β->Prop
 | nil:a2a R [] []
 | cons {a b as bs} (h:R a b) (t:a2a R as bs):a2a R (a::as) (b::bs)
section
variable {α β:Type}{R R':α->β->Prop}{as cs:List α}{bs ds:List β}
theorem a2a.mono (k:∀a b,R a b->R' a b):∀{as:List α} {bs:List β},a2a R as bs->a2a R' as bs
 | _,_,.nil=>.nil
 | _,_,.cons h t=>.cons (k _ _ h) (t.mono k)
theorem a2a.len:∀{as:List α} {bs:List β},a2a R as bs->as.length=bs.length
 | _,_,.nil=>rfl
 | _,_,.cons _ t=>by rw[A1c,A1c,t.len]
theorem a2a.get {as:List α}{bs:List β}(h:a2a R as bs):∀{i:Nat} {a:α},as[i]? = some a->∃b,bs[i]? = some b/\R a b:=by
 induction h with
 | nil=>
  intro i a e;cases e
 | cons h t ih=>
  intro i a e
  cases i with
  | zero=>
   cases e;exact⟨_,rfl,h⟩
  | succ i=>exact ih (i:=i) (by simpa using e)
theorem a2a.app:∀{as:List α} {bs:List β},a2a R as bs->a2a R cs ds->a2a R (as++cs) (bs++ds)
 | _,_,.nil,h=>h
 | _,_,.cons x t,h=>.cons x (t.app h)
theorem a2a.snoc {a:α}{b:β}(h:a2a R as bs)(x:R a b):a2a R (as++[a]) (bs++[b]):=h.app (.cons x .nil)
theorem a2a.take:∀{as:List α} {bs:List β},a2a R as bs->∀i,a2a R (as.take i) (bs.take i)
 | _,_,.nil,i=>by rw[B1q,B1q];exact .nil
 | _,_,.cons _ _,0=>.nil
 | _,_,.cons x t,i+1=>.cons x (t.take i)
theorem a2a.rev:∀{as:List α} {bs:List β},a2a R as bs->a2a R as.reverse bs.reverse
 | _,_,.nil=>.nil
 | _,_,.cons x t=>by rw[A6k,A6k];exact t.rev.snoc x
end
def Wt (H:Hp)(a:Addr)(d:Dd):Prop:=H a=some (.tup (.str d.k.word::vn d.w))
theorem Wt.wd {a:Addr}{n:Nat}(h:Wt H a d)(ok:d.Ok n)(nd:∀{l:List Nat},l.Nodup->(l.map fun x:Nat=>(x:Int)).Nodup):WdAt H a d.k (d.w.map fun x:Nat=>(x:Int)):=⟨by rw[<- vn_ints];exact h,by rw[A0b];exact ok.len,nd ok.nd⟩
abbrev a1c (as:List Addr):List V:=as.map V.ref
def DsAt (CD:DK->Addr)(H:Hp)(l:Addr)(ds:List Dd):Prop:=∃as,H l=some (.lst (a1c as))/\a2a (d6y CD H) as ds
theorem But.of (s:a1n H H1)(h:But f H1 H'):But f H H':=fun c o hc e=>h c o hc (s c o e)
theorem But.then (h:But f H H1)(s:a1n H1 H'):But f H H':=fun c o hc e=>s c o (h c o hc e)
theorem But.trans (s:But f H H1)(h:But f H1 H'):But f H H':=fun c o hc e=>h c o hc (s c o hc e)
theorem But.wt (h:But f H H')(hf:H f=some (.lst xs)){a:Addr}(w:Wt H a d):Wt H' a d:=h _ _ (a8x w hf (by intro z;cases z)) w
theorem But.dd {CD:DK->Addr}(h:But f H H')(hf:H f=some (.lst xs)){a:Addr}(w:d6y CD H a d):d6y CD H' a d:=by
 obtain⟨dx,t,h1,h2,h3⟩:=w;exact⟨dx,t,h _ _ (a8x h1 hf (by intro z;cases z)) h1,h _ _ (a8x h2 hf (by intro z;cases z)) h2,h3⟩
section
variable {K:A0a}{H:Hp}{Q:VK}{a b:Addr}{as bs:List Addr}{ds:List Dd}
end
theorem cut_takeV (xs:List V)(k:Nat):c7g xs none (some (k:Int))=xs.take k:=by
 unfold c7g;rw[HT.sIx_none,HT.sIx_nat,List.drop_zero,B2f,List.take_eq_take_iff];omega
theorem cut_dropV (xs:List V)(k:Nat):c7g xs (some (k:Int)) none=xs.drop k:=by
 unfold c7g;rw[HT.sIx_none,HT.sIx_nat]
 by_cases h:k<=xs.length
 ·rw[Nat.min_eq_left h,List.take_of_length_le (by rw[A7z];exact A0k _)]
 ·rw[Nat.min_eq_right (by omega),B0m (A0k _),B0m (by omega:xs.length<=k),B1q]
theorem a1r {as:List Addr}{i:Nat}{x:V}(h:(a1c as)[i]? = some x):∃a,as[i]? = some a/\x=.ref a:=by
 unfold a1c at h;rw[List.getElem?_map] at h
 cases e:as[i]? with
 | none=>rw[e] at h;cases h
 | some a=>rw[e] at h;exact⟨a,rfl,(A0s h).symm⟩
theorem a0m (as:List Addr):(a1c as).length=as.length:=A0b _
end Tw
namespace L2
open PySem PySem.Spec PyProof.Rows
def CMulW (i j:Int):Prop:=i.natAbs<2^300/\j.natAbs<2^300
theorem bits300 {k:Int}(h:k.natAbs<2^300):A1f k<=300:=by
 unfold A1f
 split
 ·exact A1v _
 ·rcases Nat.eq_zero_or_pos k.natAbs with z|z
  ·rw[z];decide
  ·exact(Nat.log2_lt (Nat.ne_of_gt z)).mpr h
theorem op_mulW {X:Cx}:OpR X (binaryOp .Mult) (rI CMulW fun i j=>.int (i*j)):=opI fun _ _ _ _ _ _ _ hc q=>mul_int q (IntMulOk.of_bits (A1z (bits300 hc.1) (by decide)) (A1z (bits300 hc.2) (by decide)))
section
variable {K:A0a}{a:Addr}{xs:List V}{tl:TE}{tt:TT}{te:TE}{Q:VK}{σ:St}{H:Hp}
def sCompL (K:A0a)(tt:TT)(te:TE)(σ:St)(Q:VK):V->Hp->Prop:=fun x H=>∃a,x=.ref a/\(∃xs,SqL K H a xs)/\∃W:Nat->Nat->List V->Hp->Prop,(∃m,W 0 m [] H)/\∀i m ys H,W i m ys H->((Itl K a).stop i H/\∀p,H p=none->Q (.ref p) (upd H p (.lst ys)))\/
   ((Itl K a).go i H/\ys.length<sizeLine/\∃N:List V->Hp->Prop,(∀ys' H',N ys' H'->∃m',m'<m/\W (i+1) m' ys' H')/\
    ∀x H',(Itl K a).yld i H x H'->tt (some x::σ) H' fun b H2=>if b=true then te (some x::σ) H2 fun y H3=>N (ys++[y]) H3 else N ys H2)
theorem st_cpE (h:tl σ H (sCompL K tt te σ Q)):d0t (iList K tl) tt te σ H Q:=h
theorem st_cpAt (s:SqL K H a xs)(Pv:Nat->List V->Hp->Prop)(hn:xs.length<=1000)(h0:Pv 0 [] H)(hl:∀i ys H,Pv i ys H->ys.length<=i)(hk:∀i ys H,Pv i ys H->SqL K H a xs)
  (hs:∀i x ys H,xs[i]? = some x->Pv i ys H->tt (some x::σ) H fun b H2=>if b=true then te (some x::σ) H2 fun y H3=>Pv (i+1) (ys++[y]) H3 else Pv (i+1) ys H2)
  (hd:∀ys H,Pv xs.length ys H->∀p,H p=none->Q (.ref p) (upd H p (.lst ys))):sCompL K tt te σ Q (.ref a) H:=⟨a,rfl,⟨xs,s⟩,d6h Pv hn h0 hl hk hs hd⟩
end
end L2
namespace Tw
open PySem L2
variable {K:A0a}{a:Addr}{H H':Hp}{r:Row}
def Rt (K:A0a)(H:Hp)(a:Addr)(r:Row):Prop:=H a=some (.tup r.V)
def rD (r:Row):PyData:=.tuple (r.V.map dV)
theorem d3s (r:Row):r.V.all okV=true:=rfl
theorem dvs_rw {K:A0a}{H:Hp}:∀{as:List Addr} {rs:List Row},a2a (Rt K H) as rs->DVs K H (a1c as) (rs.map rD)
 | _,_,.nil=>.nil
 | _,_,.cons h t=>.cons (.tup (SqT.of h) (dvs_flat (d3s _))) (dvs_rw t)
theorem lay_rw:∀rs:List Row,A7s (rs.map rD)=true
 | []=>rfl
 | d::r=>by
  have h1:(rD d).canLay0=true:=by
   unfold rD;rw[A9k];exact dVs_lay (d3s _)
  simp[A7s,h1,lay_rw r]
theorem depth_rw:∀rs:List Row,A7e (rs.map rD)<=1
 | []=>by simp[A7e]
 | d::r=>by
  have h1:(rD d).depth<=1:=by
   unfold rD;simp only[B2e,dVs_depth];omega
  have h2:=depth_rw r;simp only[A2a,A7e];omega
theorem eqv_rw:∀rs:List Row,A2x (rs.map rD) (rs.map rD)=true
 | []=>rfl
 | d::r=>by
  have h1:A4v (rD d) (rD d)=true:=by
   unfold rD;rw[A4v,dVs_eqv]
  simp[A2x,h1,eqv_rw r]
theorem c2f (rs:List Row):A7v (.list (rs.map rD))=true:=by
 have h:=depth_rw rs;unfold A7v;rw[A9k,B2e,lay_rw,A8j,decide_eq_true_eq];omega
section
variable {K:A0a}{H:Hp}{Q:VK}{a b:Addr}{as bs:List Addr}{rs:List Row}
theorem st_eqR (ha:SqL K H a (a1c as))(hb:SqL K H b (a1c bs))(h1:a2a (Rt K H) as rs)(h2:a2a (Rt K H) bs rs)(q:Q (.bl true) H):rEqD K (.ref a) (.ref b) H Q:=
 ⟨_,_,.lst ha (dvs_rw h1),.lst hb (dvs_rw h2),c2f rs,c2f rs,by rw[A4v,eqv_rw];exact q⟩
end
theorem Rt.same (s:a1n H H')(h:Rt K H a r):Rt K H' a r:=s _ _ h
theorem But.rt {f:Addr}{xs:List V}(h:But f H H')(hf:H f=some (.lst xs))(w:Rt K H a r):Rt K H' a r:=h _ _ (a8x w hf (by intro z;cases z)) w
theorem a2f (as:List Addr)(a:Addr):a1c as++[.ref a]=a1c (as++[a]):=by unfold a1c;rw[A0f];rfl
theorem none_of {p:Addr}(s:a1n H H')(h:H' p=none):H p=none:=by
 cases e:H p with
 | none=>rfl
 | some o=>rw[s _ _ e] at h;cases h
theorem cmulW {x y:Int}(h1:0<=x)(h2:x<10^41)(h3:0<=y)(h4:y<10^41):CMulW x y:=by
 have e:(10:Nat)^41<2^300:=by decide
 have e2:(10:Int)^41=((10^41:Nat):Int):=by decide
 rw[e2] at h2 h4;exact⟨by omega,by omega⟩
theorem a7m (as bs:List Dd)(r:Row):acts (as++bs) r=acts bs (acts as r):=by unfold acts;rw[A9v]
end Tw
namespace Tw
theorem row_zero (d:Dd):act d ⟨0,0,0⟩=⟨0,0,0⟩:=by
 obtain⟨k,w⟩:=d;cases k<;>simp[act,a3j,ex]
theorem acts_zero:∀ds:List Dd,acts ds ⟨0,0,0⟩=⟨0,0,0⟩
 | []=>rfl
 | d::ds=>by
  show acts ds (act d ⟨0,0,0⟩)=_;rw[row_zero];exact acts_zero ds
open PySem L2 in
theorem row_eqv (r s:Row):A4v (rD r) (rD s)=true ↔ r=s:=by
 obtain⟨a,b,c⟩:=r;obtain⟨a',b',c'⟩:=s;simp only[rD,Row.V,A2a,A9b,dV,A4v,A2x,A3m,A2h,Row.mk.injEq,beq_iff_eq,decide_eq_true_eq];omega
open PySem L2 in
theorem rows_eqv:∀rs ss:List Row,A2x (rs.map rD) (ss.map rD)=true ↔ rs=ss
 | [],[]=>by simp[A2x]
 | [],_::_=>by simp[A2x]
 | _::_,[]=>by simp[A2x]
 | r::rs,s::ss=>by simp only[A2a,A2x,A2h,row_eqv,rows_eqv rs ss,B0x]
section
open PySem L2
variable {K:A0a}{H:Hp}{Q:VK}{a b:Addr}{as bs:List Addr}{rs ss:List Row}{r s:Row}
end
theorem a2a.get' {α β:Type}{R:α->β->Prop}{as:List α}{bs:List β}(h:a2a R as bs):∀{i:Nat} {b:β},bs[i]? = some b->∃a,as[i]? = some a/\R a b:=by
 induction h with
 | nil=>
  intro i b e;cases e
 | cons h t ih=>
  intro i b e
  cases i with
  | zero=>
   cases e;exact⟨_,rfl,h⟩
  | succ i=>exact ih (i:=i) (by simpa using e)
end Tw
namespace L2
open PySem PySem.Spec PyProof.Rows
section
variable {X:Cx}
theorem op_notB:OpR X (compareOp .IsNot) (fun x y H Q=>∃a b:Bool,x=.bl a/\y=.bl b/\Q (.bl (!(a==b))) H):=by
 intro pins s σ H x y v u Q I rx ry h;obtain⟨a,b,rfl,rfl,q⟩:=h;cases rx;cases ry;exact wpAny_isNot_plain rfl (a3a I q (by cases a<;>cases b<;>rfl))
end
section
variable {K:A0a}{H:Hp}{Q:VK}{l:Addr}{xs:List V}{k:Int}
end
end L2
namespace Tw
open PySem L2
variable {k:DK}{d:Dd}{ds:List Dd}{L l ls m vs:List Nat}{rs told us:List Row}{a b i u v w x:Nat}{g r s:Row}
section
variable {K:A0a}{H:Hp}{Q:VK}{a b a1 a2 b1 b2:Addr}{as as' bs bs':List Addr}{ds es:List Dd}
end
def a2e:List Nat->Nat->Nat
 | [],_=>0
 | v::vs,w=>(if w.testBit 0=true then v else 0)^^^a2e vs (w/2)
theorem a6e:∀vs:List Nat,a2e vs 0=0
 | []=>rfl
 | v::vs=>by
  show (if (0:Nat).testBit 0=true then v else 0)^^^a2e vs (0/2)=0;rw[Nat.zero_div,a6e vs,if_neg (by decide)];rfl
theorem if_xor (a b:Bool)(v:Nat):(if (a ^^ b)=true then v else 0)=(if a=true then v else 0)^^^(if b=true then v else 0):=by
 cases a<;>cases b<;>simp
theorem x4 (a b c d:Nat):(a^^^b)^^^(c^^^d)=(a^^^c)^^^(b^^^d):=by
 rw[A1m,A1m]
 congr 1
 rw[<- A1m,<- A1m,A4y b c]
theorem a8g:∀(vs:List Nat) (a b:Nat),a2e vs (a^^^b)=a2e vs a^^^a2e vs b
 | [],_,_=>(A1q 0).symm
 | v::vs,a,b=>by
  show (if (a^^^b).testBit 0=true then v else 0)^^^a2e vs ((a^^^b)/2)=_;rw[A0m,if_xor,show (a^^^b)/2=(a/2)^^^(b/2) from Nat.xor_div_two,a8g vs];exact x4 _ _ _ _
theorem b7a:∀(vs:List Nat) (v w:Nat),a2e (vs++[v]) w=a2e vs w^^^(if w.testBit vs.length=true then v else 0)
 | [],v,w=>by
  show (if w.testBit 0=true then v else 0)^^^0=0^^^_;rw[A1t,A2d];rfl
 | u::vs,v,w=>by
  show (if w.testBit 0=true then u else 0)^^^a2e (vs++[v]) (w/2)=((if w.testBit 0=true then u else 0)^^^a2e vs (w/2))^^^_;rw[b7a vs v (w/2),A1m]
  congr 2
  rw[A1c,A5q]
theorem b4s:∀{vs:List Nat} {k v:Nat},vs[k]? = some v->a2e vs (2^k)=v
 | [],_,_,h=>by cases h
 | u::vs,0,v,h=>by
  obtain rfl:u=v:=A0s h;show (if (2^0:Nat).testBit 0=true then u else 0)^^^a2e vs ((2^0)/2)=u;rw[show (2^0:Nat)/2=0 from rfl,a6e,A1t];rfl
 | u::vs,k+1,v,h=>by
  show (if (2^(k+1):Nat).testBit 0=true then u else 0)^^^a2e vs ((2^(k+1))/2)=v;rw[show (2^(k+1):Nat)/2=2^k by rw[A2s];omega,b4s (show vs[k]? = some v from h),show (2^(k+1):Nat).testBit 0=false by rw[A2j,A2s];simp];simp
theorem b9z {j:Nat}:∀{vs:List Nat} (w:Nat),(∀v∈vs,v.testBit j=false)->(a2e vs w).testBit j=false
 | [],_,_=>A1y _
 | v::vs,w,h=>by
  show (_^^^a2e vs (w/2)).testBit j=false;rw[A0m,b9z (w/2) fun u hu=>h u (A0e _ hu)];have:=h v A0d
  split<;>simp[this]
theorem c2y {n:Nat}:∀{vs:List Nat} (w:Nat),(∀v∈vs,v<2^n)->a2e vs w<2^n
 | [],_,_=>A0x n
 | v::vs,w,h=>by
  refine A1p ?_ (c2y (w/2) fun u hu=>h u (A0e _ hu))
  split
  ·exact h v A0d
  ·exact A0x n
structure Sm where
 j:Nat
 t:Nat
 p:Nat
def red:List Sm->Nat->Nat->Nat×Nat
 | [],l,w=>(l,w)
 | s::r,l,w=>if l.testBit s.j=true then red r (l^^^s.t) (w^^^s.p) else red r l w
def Tot (ss:List Sm)(x:Nat):Prop:=∃m,a2e (ss.map Sm.t) m=x
theorem Tot.zero (ss:List Sm):Tot ss 0:=⟨0,a6e _⟩
theorem Tot.xor {ss:List Sm}{y:Nat}(a:Tot ss x)(b:Tot ss y):Tot ss (x^^^y):=by
 obtain⟨m,rfl⟩:=a;obtain⟨k,rfl⟩:=b;exact⟨m^^^k,a8g _ _ _⟩
theorem Tot.mem {ss:List Sm}{s:Sm}(h:s∈ss):Tot ss s.t:=by
 obtain⟨k,hk⟩:=List.getElem?_of_mem h;exact⟨2^k,b4s (by rw[List.getElem?_map,hk];rfl)⟩
theorem Tot.snoc {ss:List Sm}(s:Sm)(h:Tot ss x):Tot (ss++[s]) x:=by
 obtain⟨m,rfl⟩:=h;refine⟨m%2^ss.length,?_⟩;rw[A0f,A3y,b7a,A0b,A4n];simp only[A2z,decide_false,A9g,A4x,if_false,A1t];rw[<- A0b (as:=ss) (f:=Sm.t)];generalize ss.map Sm.t=vs
 induction vs generalizing m with
 | nil=>rfl
 | cons v vs ih=>
  show (if (m%2^(vs.length+1)).testBit 0=true then v else 0)^^^a2e vs (m%2^(vs.length+1)/2)=(if m.testBit 0=true then v else 0)^^^a2e vs (m/2);have h1:(m%2^(vs.length+1)).testBit 0=m.testBit 0:=by rw[A4n];simp
  have h2:m%2^(vs.length+1)/2=(m/2)%2^vs.length:=by
   rw[A2s,B0y,A8w]
  rw[h1,h2,ih]
structure d6x (vs:List Nat)(ss:List Sm):Prop where
 tot:∀s∈ss,s.t=a2e vs s.p
 lt:∀s∈ss,s.p<2^vs.length
 bit:∀s∈ss,s.t.testBit s.j=true
 ord:ss.Pairwise fun a b=>b.t.testBit a.j=false
 cov:∀w,Tot ss (a2e vs w)
theorem red_ok {vs:List Nat}:∀{ss:List Sm} {l w:Nat},(∀s∈ss,s.t=a2e vs s.p)->(∀s∈ss,s.p<2^vs.length)->∃p,p<2^vs.length/\(red ss l w).1=l^^^a2e vs p/\(red ss l w).2=w^^^p/\Tot ss (a2e vs p)
 | [],l,w,_,_=>⟨0,A0x _,by rw[a6e,A1t];rfl,by rw[A1t];rfl,by rw[a6e];exact Tot.zero _⟩
 | s::r,l,w,h1,h2=>by
  have g1:∀t∈r,t.t=a2e vs t.p:=fun t ht=>h1 t (A0e _ ht);have g2:∀t∈r,t.p<2^vs.length:=fun t ht=>h2 t (A0e _ ht)
  have up:∀{x},Tot r x->Tot (s::r) x:=fun {x} ⟨m,e⟩=>⟨2*m,by
   show (if (2*m).testBit 0=true then s.t else 0)^^^a2e (r.map Sm.t) (2*m/2)=x;rw[A7f _ (by decide),e,show (2*m).testBit 0=false by simp[A2j]]
   simp⟩
  unfold red
  split
  ·obtain⟨p,a1,a2,a3,a4⟩:=red_ok (l:=l^^^s.t) (w:=w^^^s.p) g1 g2;refine⟨s.p^^^p,A1p (h2 s A0d) a1,?_,?_,?_⟩
   ·rw[a2,a8g,<- h1 s A0d,A1m]
   ·rw[a3,A1m]
   ·rw[a8g,<- h1 s A0d];exact(Tot.mem A0d).xor (up a4)
  ·obtain⟨p,a1,a2,a3,a4⟩:=red_ok (l:=l) (w:=w) g1 g2;exact⟨p,a1,a2,a3,up a4⟩
theorem c0h {j:Nat}:∀{ss:List Sm} {l w:Nat},(∀s∈ss,s.t.testBit j=false)->l.testBit j=false->((red ss l w).1).testBit j=false
 | [],_,_,_,h=>h
 | s::r,l,w,h1,h=>by
  unfold red
  split
  ·exact c0h (fun t ht=>h1 t (A0e _ ht)) (by rw[A0m,h,h1 s A0d];rfl)
  ·exact c0h (fun t ht=>h1 t (A0e _ ht)) h
theorem c2d:∀{ss:List Sm} {l w:Nat},(∀s∈ss,s.t.testBit s.j=true)->ss.Pairwise (fun a b=>b.t.testBit a.j=false)->∀s∈ss,((red ss l w).1).testBit s.j=false
 | [],_,_,_,_,s,hs=>by cases hs
 | u::r,l,w,h1,h2,s,hs=>by
  obtain⟨o1,o2⟩:=A3z.1 h2;have g1:∀t∈r,t.t.testBit t.j=true:=fun t ht=>h1 t (A0e _ ht);unfold red
  rcases A1n.1 hs with rfl|hs
  ·split
   ·rename_i hb;exact c0h o1 (by rw[A0m,hb,h1 s A0d];rfl)
   ·rename_i hb;exact c0h o1 (by simpa using hb)
  ·split
   ·exact c2d g1 o2 s hs
   ·exact c2d g1 o2 s hs
theorem tot_zero:∀{ss:List Sm} {x:Nat},(∀s∈ss,s.t.testBit s.j=true)->ss.Pairwise (fun a b=>b.t.testBit a.j=false)->Tot ss x->(∀s∈ss,x.testBit s.j=false)->x=0
 | [],x,_,_,⟨m,e⟩,_=>e.symm
 | u::r,x,h1,h2,⟨m,e⟩,h3=>by
  obtain⟨o1,o2⟩:=A3z.1 h2;have e':(if m.testBit 0=true then u.t else 0)^^^a2e (r.map Sm.t) (m/2)=x:=e
  have hy:(a2e (r.map Sm.t) (m/2)).testBit u.j=false:=b9z _ fun v hv=>by
   obtain⟨t,ht,rfl⟩:=A0r.1 hv;exact o1 t ht
  have hx:=h3 u A0d
  by_cases hb:m.testBit 0=true
  ·rw[if_pos hb] at e';rw[<- e',A0m,hy,h1 u A0d] at hx;cases hx
  ·rw[if_neg hb,A2d] at e';exact tot_zero (fun t ht=>h1 t (A0e _ ht)) o2 ⟨m/2,e'⟩ fun s hs=>h3 s (A0e _ hs)
theorem d6x.nil:d6x [] []:=⟨fun _ h=>(nomatch h),fun _ h=>(nomatch h),fun _ h=>(nomatch h),.nil,fun w=>⟨0,rfl⟩⟩
theorem d6x.take {ss:List Sm}(h:d6x vs ss)(v j:Nat)(hj:(red ss v (2^vs.length)).1≠0->(red ss v (2^vs.length)).1.testBit j=true) :
  d6x (vs++[v]) (if (red ss v (2^vs.length)).1≠0 then ss++[⟨j,(red ss v (2^vs.length)).1,(red ss v (2^vs.length)).2⟩] else ss):=by
 obtain⟨p,p1,p2,p3,p4⟩:=red_ok (l:=v) (w:=2^vs.length) h.tot h.lt;have hf:=c2d (l:=v) (w:=2^vs.length) h.bit h.ord;generalize hl:(red ss v (2^vs.length)).1=l at *
 generalize hw:(red ss v (2^vs.length)).2=w at *
 have hp:p.testBit vs.length=false:=A0u p1
 have up:∀q,q<2^vs.length->a2e (vs++[v]) q=a2e vs q:=fun q hq=>by
  rw[b7a,A0u hq];simp
 have ol:∀s∈ss,s.t=a2e (vs++[v]) s.p:=fun s hs=>by rw[up _ (h.lt s hs)];exact h.tot s hs
 have ll:∀s∈ss,s.p<2^(vs++[v]).length:=fun s hs=>A0c (h.lt s hs) (A0g (by decide) (by simp));have hv:v=l^^^a2e vs p:=by rw[p2,A1m,A1q,A1t]
 have cov:∀(ss':List Sm),(∀x,Tot ss x->Tot ss' x)->Tot ss' v->∀q,Tot ss' (a2e (vs++[v]) q):=fun ss' g1 g2 q=>by
  rw[b7a];refine(g1 _ (h.cov q)).xor ?_
  split
  ·exact g2
  ·exact Tot.zero _
 split
 ·rename_i hne;have hwp:w=2^vs.length^^^p:=p3
  have hnew:l=a2e (vs++[v]) w:=by
   rw[hwp,a8g,up _ p1,b7a]
   have e0:a2e vs (2^vs.length)=0:=by
    have:∀(us:List Nat),a2e us (2^us.length)=0:=fun us=>by
     induction us with
     | nil=>rfl
     | cons u us ih=>
      show (if (2^(us.length+1):Nat).testBit 0=true then u else 0)^^^a2e us ((2^(us.length+1))/2)=0;rw[show (2^(us.length+1):Nat)/2=2^us.length by rw[A2s];omega,ih,show (2^(us.length+1):Nat).testBit 0=false by rw[A2j,A2s];simp];simp
    exact this vs
   rw[e0,A4g,if_pos rfl,A2d];exact p2
  refine⟨fun s hs=>?_,fun s hs=>?_,fun s hs=>?_,?_,cov _ (fun x hx=>hx.snoc _) ?_⟩
  ·rcases A0p.1 hs with hs|hs
   ·exact ol s hs
   ·rw[A0h.1 hs];exact hnew
  ·rcases A0p.1 hs with hs|hs
   ·exact ll s hs
   ·rw[A0h.1 hs];show w<_;rw[hwp,A0j,A3e];exact A1p (A1w (by decide) (A4a _)) (A0c p1 (A0g (by decide) (A5x _)))
  ·rcases A0p.1 hs with hs|hs
   ·exact h.bit s hs
   ·rw[A0h.1 hs];exact hj hne
  ·rw[A6n];exact⟨h.ord,A7g _ _,fun a ha b hb=>by rw[A0h.1 hb];exact hf a ha⟩
  ·have t1:Tot (ss++[⟨j,l,w⟩]) l:=Tot.mem (s:=⟨j,l,w⟩) (by simp);have t2:=t1.xor ((Tot.snoc ⟨j,l,w⟩ p4));rw[hv];exact t2
 ·rename_i hz;have l0:l=0:=by simpa using hz
  refine⟨ol,ll,h.bit,h.ord,cov _ (fun x hx=>hx) ?_⟩;rw[hv,l0,A2d];exact p4
theorem d6x.left {ss:List Sm}(h:d6x vs ss)(x:Nat):(red ss x 0).2<2^vs.length/\((red ss x 0).1=0->a2e vs (red ss x 0).2=x)/\((red ss x 0).1≠0->∀q,a2e vs q≠x):=by
 obtain⟨p,p1,p2,p3,p4⟩:=red_ok (l:=x) (w:=0) h.tot h.lt;have hf:=c2d (l:=x) (w:=0) h.bit h.ord;rw[A2d] at p3;refine⟨by rw[p3];exact p1,fun h0=>?_,fun h0 q e=>h0 ?_⟩
 ·rw[p3];rw[h0] at p2;have:=congrArg (· ^^^ a2e vs p) p2
  simp only[A1m,A1q,A1t,A2d] at this;exact this
 ·refine tot_zero h.bit h.ord ?_ hf;rw[p2];refine Tot.xor ?_ p4;rw[<- e];exact h.cov q
def pb (u:Nat):Bool:=decide (pop u%2=1)
theorem c2g (u v:Nat):pb (u^^^v)=(pb u ^^ pb v):=by
 unfold pb;have h:=b4u u v;have h1:=A2c (pop u);have h2:=A2c (pop v);rw[Nat.add_mod] at h
 rcases h1 with h1|h1<;>rcases h2 with h2|h2<;>rw[h,h1,h2]<;>decide
theorem b6t:pb 0=false:=by unfold pb;rw[a9t];rfl
theorem pop_pow (i:Nat):pop (2^i)=1:=by
 induction i with
 | zero=>rw[b0c,show (2^0:Nat)/2=0 from rfl,a9t]
 | succ i ih=>
  have h:(2^(i+1):Nat)/2=2^i:=by rw[A2s];omega
  have h2:(2^(i+1):Nat)%2=0:=by rw[A2s];omega
  rw[b0c,h,ih,h2]
theorem c8q (u i:Nat):u&&&2^i=(u.testBit i).toNat*2^i:=by
 apply A1h;intro q;rw[A1k,A2q,d2u]
 by_cases h:i=q
 ·subst h;simp
 ·simp[h]
theorem d1z (b:Bool)(i:Nat):pb (b.toNat*2^i)=b:=by
 cases b
 ·simp[b6t]
 ·unfold pb;simp[pop_pow]
theorem b7u (u:Nat)(b:Bool)(i:Nat):u&&&b.toNat*2^i=(b&&u.testBit i).toNat*2^i:=by
 cases b
 ·simp
 ·rw[A4t,A7t,c8q,A8j]
theorem c0y (u:Nat)(b:Bool)(i:Nat):b.toNat*2^i&&&u=(b&&u.testBit i).toNat*2^i:=by rw[A0w,b7u]
def a2v (r s:Row):Bool:=pb (r.x&&&s.z) ^^ pb (r.z&&&s.x)
theorem a7w (b:Bool)(i q:Nat):(b.toNat*2^i).testBit q=(b&&decide (i=q)):=by
 cases b
 ·simp
 ·rw[A4t,A7t,A2q,A8j]
theorem actW_symp {j:Nat}(hj:k.n=2->i≠j)(r s:Row):a2v (a3j k i j r) (a3j k i j s)=a2v r s:=by
 cases k with
 | over=>rfl
 | quarter=>
  simp only[a2v,a3j,a9b,a8q,c2g,b7u,c0y,d1z];generalize r.x.testBit i=a;generalize s.x.testBit i=b;generalize pb (r.x&&&s.z)=p;generalize pb (r.z&&&s.x)=q
  revert a b p q;decide
 | back=>
  simp only[a2v,a3j,a9b,a8q,c2g,b7u,c0y,d1z];generalize r.x.testBit i=a;generalize s.x.testBit i=b;generalize pb (r.x&&&s.z)=p;generalize pb (r.z&&&s.x)=q
  revert a b p q;decide
 | both=>
  simp only[a2v,a3j,a9b,a8q,c2g,b7u,c0y,d1z,A0m,a7w,decide_true,A3m];generalize r.x.testBit i=a;generalize s.x.testBit i=b;generalize r.z.testBit i=c;generalize s.z.testBit i=d;generalize pb (r.x&&&s.z)=p;generalize pb (r.z&&&s.x)=q
  revert a b c d p q;decide
 | wher=>
  have h:=hj rfl;have h':¬j=i:=fun z=>h z.symm;simp only[a2v,a3j,a9b,a8q,c2g,b7u,c0y,d1z,A0m,a7w,h,h',decide_false,A2v,A3j];generalize r.x.testBit i=a;generalize s.x.testBit i=b;generalize r.z.testBit j=c;generalize s.z.testBit j=d;generalize pb (r.x&&&s.z)=p;generalize pb (r.z&&&s.x)=q
  revert a b c d p q;decide
 | swap=>
  have h:=hj rfl;have h':¬j=i:=fun z=>h z.symm;simp only[a2v,a3j,ex,a9b,a8q,c2g,b7u,c0y,d1z,A0m,a7w,h,h',decide_false,decide_true,A3m,A2v,A3j];generalize r.x.testBit i=a;generalize s.x.testBit i=b;generalize r.z.testBit j=c;generalize s.z.testBit j=d;generalize r.x.testBit j=a';generalize s.x.testBit j=b';generalize r.z.testBit i=c';generalize s.z.testBit i=d';generalize pb (r.x&&&s.z)=p;generalize pb (r.z&&&s.x)=q
  revert a b c d a' b' c' d' p q;decide +kernel
theorem d7b {n:Nat}(ok:d.Ok n)(r s:Row):a2v (act d r) (act d s)=a2v r s:=actW_symp (fun e=>(ok.one.2.1 e).2) r s
theorem c9c {n:Nat}:∀{ds:List Dd},(∀d∈ds,d.Ok n)->∀r s,a2v (acts ds r) (acts ds s)=a2v r s
 | [],_,_,_=>rfl
 | d::ds,h,r,s=>by
  show a2v (acts ds (act d r)) (acts ds (act d s))=_;rw[c9c (fun c hc=>h c (A0e _ hc)),d7b (h d A0d)]
theorem a8v (a b:Bool)(k:Nat):(a ^^ b).toNat*2^k=a.toNat*2^k^^^b.toNat*2^k:=by
 cases a<;>cases b<;>simp
def Add3 (r s t:Row):Prop:=t.x=r.x^^^s.x/\t.z=r.z^^^s.z
theorem xx4 (a b c d:Nat):a^^^b^^^(c^^^d)=a^^^c^^^(b^^^d):=x4 a b c d
theorem actW_add {j:Nat}{t:Row}(h:Add3 r s t):Add3 (a3j k i j r) (a3j k i j s) (a3j k i j t):=by
 obtain⟨hx,hz⟩:=h;have e4:∀a b c d:Bool,((a ^^ b) ^^ (c ^^ d))=((a ^^ c) ^^ (b ^^ d)):=by decide
 cases k with
 | over=>exact⟨hx,hz⟩
 | quarter=>exact⟨hx,by simp only[a3j,hx,hz,A0m,a8v];exact xx4 _ _ _ _⟩
 | back=>exact⟨hx,by simp only[a3j,hx,hz,A0m,a8v];exact xx4 _ _ _ _⟩
 | both=>
  constructor
  ·simp only[a3j,hx,hz,A0m];rw[e4,a8v];exact xx4 _ _ _ _
  ·simp only[a3j,hx,hz,A0m];rw[e4,a8v];exact xx4 _ _ _ _
 | wher=>exact⟨by simp only[a3j,hx,hz,A0m,a8v];exact xx4 _ _ _ _,by simp only[a3j,hx,hz,A0m,a8v];exact xx4 _ _ _ _⟩
 | swap=>
  have key:∀a b:Nat,ex (a^^^b) i j=ex a i j^^^ex b i j:=fun a b=>by
   simp only[ex,A0m];rw[e4];generalize (a.testBit i ^^ a.testBit j)=u;generalize (b.testBit i ^^ b.testBit j)=v;rw[a8v,a8v,xx4 a,xx4 (a^^^u.toNat*2^i)]
  exact⟨by show ex t.x i j=ex r.x i j^^^ex s.x i j;rw[hx,key],by show ex t.z i j=ex r.z i j^^^ex s.z i j;rw[hz,key]⟩
theorem b4t:∀{ds:List Dd} {r s t:Row},Add3 r s t->Add3 (acts ds r) (acts ds s) (acts ds t)
 | [],_,_,_,h=>h
 | d::ds,_,_,_,h=>b4t (ds:=ds) (actW_add h)
def Spn (l:List Nat)(v:Nat):Prop:=∃m,m<2^l.length/\a2e l m=v
theorem sp_nil (v:Nat):Spn [] v ↔ v=0:=⟨fun⟨_,_,e⟩=>e.symm,fun e=>⟨0,by decide,e.symm⟩⟩
theorem xor_flip {c:Nat}(h:a^^^b=c):b=c^^^a:=by
 rw[<- h,A4y a b,A1m,A1q,A1t]
theorem a7d (b:Nat)(l:List Nat)(v:Nat):Spn (b::l) v ↔ Spn l v\/Spn l (v^^^b):=by
 constructor
 ·rintro⟨m,hm,e⟩;have hm2:m/2<2^l.length:=by rw[A1c,A2s] at hm;omega
  have e':(if m.testBit 0=true then b else 0)^^^a2e l (m/2)=v:=e
  by_cases h:m.testBit 0=true
  ·rw[if_pos h] at e';exact .inr ⟨m/2,hm2,xor_flip e'⟩
  ·rw[if_neg h,A2d] at e';exact .inl ⟨m/2,hm2,e'⟩
 ·rintro (⟨m,hm,e⟩|⟨m,hm,e⟩)
  ·refine⟨2*m,by rw[A1c,A2s];omega,?_⟩;show (if (2*m).testBit 0=true then b else 0)^^^a2e l (2*m/2)=v;rw[A7f _ (by decide),e,show (2*m).testBit 0=false by simp[A2j]];simp
  ·refine⟨2*m+1,by rw[A1c,A2s];omega,?_⟩;show (if (2*m+1).testBit 0=true then b else 0)^^^a2e l ((2*m+1)/2)=v;rw[show (2*m+1)/2=m by omega,e,show (2*m+1).testBit 0=true by simp[A2j]];rw[if_pos rfl,A4y,A1m,A1q,A1t]
theorem xr (a b c:Nat):a^^^b^^^c=a^^^c^^^b:=by rw[A1m,A1m,A4y b c]
theorem sp_perm (h:l.Perm m):∀v,Spn l v ↔ Spn m v:=by
 induction h with
 | nil=>exact fun _=>Iff.rfl
 | cons x _ ih=>exact fun v=>by rw[a7d,a7d,ih,ih]
 | swap x y l=>
  intro v;rw[a7d,a7d,a7d,a7d,a7d,a7d,xr v x y]
  constructor
  ·rintro ((h|h)|(h|h))
   ·exact .inl (.inl h)
   ·exact .inr (.inl h)
   ·exact .inl (.inr h)
   ·exact .inr (.inr h)
  ·rintro ((h|h)|(h|h))
   ·exact .inl (.inl h)
   ·exact .inr (.inl h)
   ·exact .inl (.inr h)
   ·exact .inr (.inr h)
 | trans _ _ h1 h2=>exact fun v=>(h1 v).trans (h2 v)
def Ind:List Nat->Prop
 | []=>True
 | b::l=>¬Spn l b/\Ind l
theorem ind_perm (h:l.Perm m):Ind l->Ind m:=by
 induction h with
 | nil=>exact id
 | cons x p ih=>exact fun⟨h1,h2⟩=>⟨fun z=>h1 ((sp_perm p x).2 z),ih h2⟩
 | swap x y l=>
  rintro⟨h1,h2,h3⟩;refine⟨fun z=>?_,fun z=>h1 ((a7d _ _ _).2 (.inl z)),h3⟩
  rcases (a7d _ _ _).1 z with z|z
  ·exact h2 z
  ·exact h1 ((a7d _ _ _).2 (.inr (by rw[A4y];exact z)))
 | trans _ _ h1 h2=>exact fun h=>h2 (h1 h)
theorem d5z:∀{l:List Nat},Ind l->∀{a b:Nat},a<2^l.length->b<2^l.length->a2e l a=a2e l b->a=b
 | [],_,a,b,ha,hb,_=>by simp at ha hb;omega
 | v::l,⟨h1,h2⟩,a,b,ha,hb,e=>by
  rw[A1c,A2s] at ha hb;have e':(if a.testBit 0=true then v else 0)^^^a2e l (a/2)=(if b.testBit 0=true then v else 0)^^^a2e l (b/2):=e
  have no:∀c d,c<2^l.length->d<2^l.length->v^^^a2e l c=a2e l d->False:=fun c d hc hd z=>h1 ⟨d^^^c,A1p hd hc,by
   rw[a8g,<- z,A1m,A1q,A1t]⟩
  have key:a.testBit 0=b.testBit 0/\a2e l (a/2)=a2e l (b/2):=by
   by_cases ha0:a.testBit 0=true<;>by_cases hb0:b.testBit 0=true
   ·rw[if_pos ha0,if_pos hb0] at e';refine⟨ha0.trans hb0.symm,?_⟩;have:=congrArg (v ^^^ ·) e'
    simp only[<- A1m,A1q,A2d] at this;exact this
   ·rw[if_pos ha0,if_neg hb0,A2d] at e';exact(no _ _ (by omega) (by omega) e').elim
   ·rw[if_neg ha0,if_pos hb0,A2d] at e';exact(no _ _ (by omega) (by omega) e'.symm).elim
   ·rw[if_neg ha0,if_neg hb0,A2d,A2d] at e';exact⟨(eq_false_of_ne_true ha0).trans (eq_false_of_ne_true hb0).symm,e'⟩
  have e2:=d5z h2 (a:=a/2) (b:=b/2) (by omega) (by omega) key.2;have e3:=key.1;rw[A2j,A2j,decide_eq_decide] at e3;omega
def NR (r:Row):Nat:=r.x^^^r.z*2^40
theorem c7r {z x' z':Nat}(hx:x<2^w)(hx':x'<2^w)(h:x^^^z*2^w=x'^^^z'*2^w):x=x'/\z=z':=by
 have b1:∀{a c:Nat},a<2^w->∀i,i<w->(a^^^c*2^w).testBit i=a.testBit i:=fun {a c} ha i hi=>by
  rw[A0m,<- A3n,A3v];simp[Nat.not_le.2 hi]
 have b2:∀{a c:Nat},a<2^w->∀i,(a^^^c*2^w).testBit (w+i)=c.testBit i:=fun {a c} ha i=>by
  rw[A0m,<- A3n,A3v,A0u (A0c ha (A0g (by decide) (B0g _ _)))];simp
 constructor
 ·apply A1h;intro i
  rcases A2t i w with hi|hi
  ·rw[<- b1 (c:=z) hx i hi,h,b1 hx' i hi]
  ·rw[A0u (A0c hx (A0g (by decide) hi)),A0u (A0c hx' (A0g (by decide) hi))]
 ·apply A1h;intro i;rw[<- b2 (c:=z) hx i,h,b2 hx' i]
theorem c8f (a b k:Nat):(a^^^b)*2^k=a*2^k^^^b*2^k:=by
 rw[<- A3n,<- A3n,<- A3n];exact Nat.shiftLeft_xor_distrib
theorem d3f (w:Nat):∀(rs:List Row) (m:Nat),a2e (rs.map fun r=>r.x^^^r.z*2^w) m=a2e (rs.map Row.x) m^^^a2e (rs.map Row.z) m*2^w
 | [],m=>by simp[a2e]
 | r::rs,m=>by
  show (if m.testBit 0=true then r.x^^^r.z*2^w else 0)^^^a2e (rs.map fun r=>r.x^^^r.z*2^w) (m/2)=((if m.testBit 0=true then r.x else 0)^^^a2e (rs.map Row.x) (m/2))^^^((if m.testBit 0=true then r.z else 0)^^^a2e (rs.map Row.z) (m/2))*2^w;rw[d3f w rs (m/2),c8f]
  split
  ·exact x4 _ _ _ _
  ·simp
def Lsel (rs:List Row)(m:Nat)(r:Row):Prop:=a2e (rs.map Row.x) m=r.x/\a2e (rs.map Row.z) m=r.z
theorem c3b (hrs:∀s∈rs,s.x<2^w)(hr:r.x<2^w)(m:Nat):a2e (rs.map fun r=>r.x^^^r.z*2^w) m=r.x^^^r.z*2^w ↔ Lsel rs m r:=by
 rw[d3f]
 constructor
 ·intro h;exact c7r (c2y m fun v hv=>by obtain⟨s,hs,rfl⟩:=A0r.1 hv;exact hrs s hs) hr h
 ·rintro⟨h1,h2⟩;rw[h1,h2]
theorem b7y (hx:r.x=s.x)(hz:r.z=s.z):(acts ds r).x=(acts ds s).x/\(acts ds r).z=(acts ds s).z:=by
 have h:=b4t (ds:=ds) (r:=r) (s:=⟨0,0,0⟩) (t:=s) ⟨by rw[A1t];exact hx.symm,by rw[A1t];exact hz.symm⟩
 have h0:(acts ds ⟨0,0,0⟩).x=0/\(acts ds ⟨0,0,0⟩).z=0:=by
  have h:=b4t (ds:=ds) (r:=⟨0,0,0⟩) (s:=⟨0,0,0⟩) (t:=⟨0,0,0⟩) ⟨rfl,rfl⟩;exact⟨by rw[h.1,A1q],by rw[h.2,A1q]⟩
 refine⟨?_,?_⟩
 ·rw[h.1,h0.1,A1t]
 ·rw[h.2,h0.2,A1t]
def im (ds:List Dd)(v:Nat):Row:=acts ds ⟨0,0,v⟩
theorem im_xor (ds:List Dd)(a b:Nat):NR (im ds (a^^^b))=NR (im ds a)^^^NR (im ds b):=by
 have h:=b4t (ds:=ds) (r:=⟨0,0,a⟩) (s:=⟨0,0,b⟩) (t:=⟨0,0,a^^^b⟩) ⟨(A1q 0).symm,rfl⟩;show (acts ds ⟨0,0,a^^^b⟩).x^^^(acts ds ⟨0,0,a^^^b⟩).z*2^40=_;rw[h.1,h.2,c8f];exact x4 _ _ _ _
theorem d4c {n:Nat}(h:∀d∈ds,d.Ok n)(hv:v<2^n):(im ds v).Ok n:=b9a ⟨A1v _,A0x n,hv⟩ h
theorem im_inj {n:Nat}(hn:n<=40)(h:∀d∈ds,d.Ok n)(ha:a<2^n)(hb:b<2^n)(e:NR (im ds a)=NR (im ds b)):a=b:=by
 have p:=A0g (show 0<2 by decide) hn;obtain⟨e1,e2⟩:=c7r (A0c (d4c h ha).x p) (A0c (d4c h hb).x p) e;have h2:=(b7y (ds:=undo ds) e1 e2).2;unfold im at h2;rw[a6a h,a6a h] at h2;exact h2
theorem sp_snoc (l:List Nat)(b v:Nat):Spn (l++[b]) v ↔ Spn l v\/Spn l (v^^^b):=by
 rw[sp_perm (A7x (l₁:=l) (l₂:=[b]))];exact a7d b l v
theorem d5y (h:Ind l)(hb:¬Spn l b):Ind (l++[b]):=ind_perm (A7x (l₁:=[b]) (l₂:=l)) (show Ind (b::l) from ⟨hb,h⟩)
structure Mx (ds:List Dd)(n many:Nat)(rs:List Row):Prop where
 len:rs.length=many
 ok:∀r∈rs,r.Ok n
 com:∀r∈rs,∀s∈rs,a2v r s=false
 sp:∀u,Spn (rs.map NR) u ↔ ∃v,v<2^many/\NR (im ds v)=u
 ind:Ind (rs.map NR)
theorem d4a {n:Nat}(h:∀d∈ds,d.Ok n)(a b:Nat):a2v (im ds a) (im ds b)=false:=by
 unfold im;rw[c9c h];show (pb (0&&&b) ^^ pb (a&&&0))=false;rw[A9e,A7y,b6t];rfl
theorem Mx.plain {ds:List Dd}{n:Nat}(hn:n<=40)(h:∀d∈ds,d.Ok n):∀{many:Nat},many<=n->Mx ds n many ((A3a many).map fun k=>im ds (2^k))
 | 0,_=>by
  refine⟨rfl,fun _ h=>(nomatch h),fun _ h=>(nomatch h),fun u=>?_,trivial⟩;rw[show ((A3a 0).map fun k=>im ds (2^k)).map NR=[] from rfl,sp_nil]
  have e0:NR (im ds 0)=0:=by
   have:=im_xor ds 0 0;rw[A1q,A1q] at this;exact this
  constructor
  ·rintro rfl;exact⟨0,by decide,e0⟩
  ·rintro⟨v,hv,rfl⟩;have:v=0:=by simp at hv;omega
   rw[this,e0]
 | many+1,hm=>by
  have ih:=Mx.plain hn h (many:=many) (by omega);have e:((A3a (many+1)).map fun k=>im ds (2^k))=((A3a many).map fun k=>im ds (2^k))++[im ds (2^many)]:=by rw[A7h,A0f];rfl
  have lt:∀{k},k<n->(2:Nat)^k<2^n:=fun hk=>A1w (by decide) hk;have pm:(2:Nat)^(many+1)<=2^n:=A0g (by decide) hm;have pm2:(2:Nat)^(many+1)=2^many+2^many:=by rw[A2s];omega
  have low:∀v,v<2^many->v^^^2^many=v+2^many:=fun v hv=>by
   have h1:=Nat.two_pow_add_eq_or_of_lt hv 1;have h2:=b0n v (2^many);have h3:v&&&2^many=0:=by rw[c8q,A0u hv];simp
   have h4:=b7q v (2^many);omega
  refine⟨by rw[A0b,A3w],fun r hr=>?_,fun r hr s hs=>?_,fun u=>?_,?_⟩
  ·obtain⟨k,hk,rfl⟩:=A0r.1 hr;exact d4c h (lt (by have:=A6q.1 hk;omega))
  ·obtain⟨k,hk,rfl⟩:=A0r.1 hr;obtain⟨k',hk',rfl⟩:=A0r.1 hs;exact d4a h _ _
  ·rw[e,A0f,A3y,sp_snoc,ih.sp,ih.sp]
   constructor
   ·rintro (⟨v,hv,rfl⟩|⟨v,hv,e2⟩)
    ·exact⟨v,by omega,rfl⟩
    ·refine⟨v^^^2^many,by rw[low v hv];omega,?_⟩;rw[im_xor,e2,A1m,A1q,A1t]
   ·rintro⟨v,hv,rfl⟩
    rcases A2t v (2^many) with hv2|hv2
    ·exact .inl ⟨v,hv2,rfl⟩
    ·refine .inr ⟨v-2^many,by omega,?_⟩;have e3:v=(v-2^many)^^^2^many:=by rw[low _ (by omega)];omega
     conv=>rhs;rw[e3]
     rw[im_xor,A1m,A1q,A1t]
  ·rw[e,A0f,A3y];refine d5y ih.ind fun z=>?_;obtain⟨v,hv,e2⟩:=(ih.sp _).1 z;have:=im_inj hn h (by omega) (lt (by omega)) e2;omega
theorem c6a {t u:Row}(h:Add3 r s t):a2v t u=(a2v r u ^^ a2v s u):=by
 unfold a2v;rw[h.1,h.2,a8q,a8q,c2g,c2g];generalize pb (r.x&&&u.z)=a;generalize pb (s.x&&&u.z)=b;generalize pb (r.z&&&u.x)=c;generalize pb (s.z&&&u.x)=d
 revert a b c d;decide
theorem b6e (r s:Row):a2v r s=a2v s r:=by
 unfold a2v;rw[A0w r.x s.z,A0w r.z s.x];exact B0c _ _
def tmq (r s:Row):Int:=(pop (r.x&&&r.z):Int)+(pop (s.x&&&s.z):Int)+2*(pop (r.z&&&s.x):Int)-(pop ((r.x^^^s.x)&&&(r.z^^^s.z)):Int)
def tm (r s:Row):Row:=⟨(((r.m:Int)+(s.m:Int)+tmq r s/2)%2).toNat,r.x^^^s.x,r.z^^^s.z⟩
theorem tm_m (r s:Row):(((r.m:Int)+(s.m:Int)+tmq r s/2)%2)=((tm r s).m:Int):=by
 show _=((((r.m:Int)+(s.m:Int)+tmq r s/2)%2).toNat:Int);omega
theorem tm_le (r s:Row):(tm r s).m<=1:=by
 have:=tm_m r s;omega
theorem tm_add (r s:Row):Add3 r s (tm r s):=⟨rfl,rfl⟩
theorem b1n (r s:Row):a2v r s=false ↔ pop ((r.x&&&s.z)^^^(r.z&&&s.x))%2=0:=by
 unfold a2v;rw[<- c2g];unfold pb;rw[decide_eq_false_iff_not];omega
theorem symp_pop2 (r s:Row)(h:a2v r s=false):pop (r.x&&&s.z)%2=pop (r.z&&&s.x)%2:=by
 have h1:=(b1n r s).1 h;have h2:=b4u (r.x&&&s.z) (r.z&&&s.x);omega
theorem tm_prog (h:a2v r s=false):(2*((r.m:Int)+(s.m:Int)+(pop (r.x&&&s.z):Int))+(pop (r.x&&&r.z):Int)+(pop (s.x&&&s.z):Int)-(pop ((r.x^^^s.x)&&&(r.z^^^s.z)):Int))%4/2=((tm r s).m:Int):=by
 have h1:=symp_pop2 r s h;have h2:=pop_both r.x r.z s.x s.z;have h3:=(b1n r s).1 h;rw[<- tm_m];unfold tmq;omega
def pr (us:List Row):Row:=us.foldl tm ⟨0,0,0⟩
theorem d3n (us:List Row)(r:Row):pr (us++[r])=tm (pr us) r:=by unfold pr;rw[A9v];rfl
theorem pr_take (h:us[i]? = some r):pr (us.take (i+1))=tm (pr (us.take i)) r:=by
 rw[<- d3n,a0s h]
theorem symp_zero (s:Row):a2v ⟨0,0,0⟩ s=false:=by
 unfold a2v;show (pb (0&&&s.z) ^^ pb (0&&&s.x))=false;rw[A9e,A9e,b6t];rfl
theorem pr_com {rs:List Row}(h:∀r∈rs,∀s∈rs,a2v r s=false):∀{us:List Row},(∀u∈us,u∈rs)->∀s∈rs,a2v (pr us.reverse) s=false
 | [],_,s,_=>symp_zero s
 | u::us,hu,s,hs=>by
  rw[A6k,d3n,c6a (tm_add _ _),pr_com h (fun v hv=>hu v (A0e _ hv)) s hs,h u (hu u A0d) s hs];rfl
theorem pr_com' (h:∀r∈rs,∀s∈rs,a2v r s=false)(hu:∀u∈us,u∈rs)(hs:s∈rs):a2v (pr us) s=false:=by
 have:=pr_com h (us:=us.reverse) (fun u hu'=>hu u (List.mem_reverse.1 hu')) s hs;rw[A8e] at this;exact this
def pk (rs:List Row)(ks:List Nat):List Row:=ks.map fun k=>rs.getD k ⟨0,0,0⟩
theorem pk_app (rs:List Row)(a b:List Nat):pk rs (a++b)=pk rs a++pk rs b:=A0f ..
theorem pk_mem {ks:List Nat}(h:∀k∈ks,k<rs.length):∀u∈pk rs ks,u∈rs:=fun u hu=>by
 obtain⟨k,hk,rfl⟩:=A0r.1 hu;have:=h k hk;rw[List.getD_eq_getElem?_getD,List.getElem?_eq_getElem this];exact A5p _
theorem mod_succ (m K:Nat):m%2^(K+1)=(m%2^K)^^^(if m.testBit K=true then 2^K else 0):=by
 apply A1h;intro i;rw[A4n,A0m,A4n]
 by_cases h:i<K
 ·have e:(if m.testBit K=true then 2^K else 0:Nat).testBit i=false:=by
   split
   ·rw[A2q];simp;omega
   ·exact A1y _
  rw[e];simp[h,A6j h]
 ·by_cases h2:i=K
  ·subst h2
   have e:(if m.testBit i=true then 2^i else 0:Nat).testBit i=m.testBit i:=by
    by_cases hb:m.testBit i=true
    ·rw[if_pos hb,hb,A4g]
    ·rw[if_neg hb,A1y,eq_false_of_ne_true hb]
   rw[e];simp
  ·have e:(if m.testBit K=true then 2^K else 0:Nat).testBit i=false:=by
    split
    ·rw[A2q];simp;omega
    ·exact A1y _
   rw[e];have h3:¬i<K+1:=by omega
   simp[h,h3]
theorem pr_sel {rs:List Row}(m:Nat):∀{K:Nat},K<=rs.length->(pr (pk rs (plc m K))).x=a2e (rs.map Row.x) (m%2^K)/\(pr (pk rs (plc m K))).z=a2e (rs.map Row.z) (m%2^K)
 | 0,_=>by
  rw[Nat.pow_zero,Nat.mod_one,a6e,a6e];exact⟨rfl,rfl⟩
 | K+1,h=>by
  obtain⟨i1,i2⟩:=pr_sel (rs:=rs) m (K:=K) (by omega);have hK:K<rs.length:=by omega
  rw[mod_succ,a8g,a8g,plc]
  by_cases hb:m.testBit K=true
  ·rw[if_pos hb,if_pos hb,pk_app,show pk rs [K]=[rs.getD K ⟨0,0,0⟩] from rfl,d3n];have e:rs.getD K ⟨0,0,0⟩=rs[K]:=by rw[List.getD_eq_getElem?_getD,List.getElem?_eq_getElem hK];rfl
   have ex:a2e (rs.map Row.x) (2^K)=rs[K].x:=b4s (by rw[List.getElem?_map,List.getElem?_eq_getElem hK];rfl);have ez:a2e (rs.map Row.z) (2^K)=rs[K].z:=b4s (by rw[List.getElem?_map,List.getElem?_eq_getElem hK];rfl);rw[ex,ez,<- i1,<- i2,e];exact⟨rfl,rfl⟩
  ·rw[if_neg hb,if_neg hb,a6e,a6e,A1t,A1t];exact⟨i1,i2⟩
theorem pr_lsel {m:Nat}(h:m<2^rs.length):Lsel rs m (pr (pk rs (plc m rs.length))):=by
 obtain⟨h1,h2⟩:=pr_sel m (A0k rs.length);rw[A8b h] at h1 h2;exact⟨h1.symm,h2.symm⟩
theorem plc_more {m a:Nat}(h:m<2^a):∀{b:Nat},a<=b->plc m b=plc m a
 | 0,hb=>by rw[show a=0 by omega]
 | b+1,hb=>by
  by_cases e:a=b+1
  ·rw[e]
  ·rw[plc,A0u (A0c h (A0g (by decide) (show a<=b by omega)))];exact plc_more h (by omega)
def bn (b:Bool):Int:=if b=true then 1 else 0
theorem d3h (p q:Nat->Bool)(i:Nat)(h:∀a,a≠i->p a=q a):∀k,(cnt p k:Int)-(if i<k then bn (p i) else 0)=(cnt q k:Int)-(if i<k then bn (q i) else 0)
 | 0=>rfl
 | k+1=>by
  have ih:=d3h p q i h k;rw[cnt,cnt]
  by_cases e:k=i
  ·subst e;rw[if_neg (A2z k),if_neg (A2z k)] at ih;rw[if_pos (A4a k),if_pos (A4a k)];cases p k<;>cases q k<;>simp[bn]<;>omega
  ·rw[h k e];have e2:(i<k+1)=(i<k):=by apply propext;omega
   simp only[e2];push_cast;omega
theorem pop_but1 (h:∀a,a≠i->u.testBit a=v.testBit a):(pop u:Int)-bn (u.testBit i)=(pop v:Int)-bn (v.testBit i):=by
 obtain⟨k,ha,hb⟩:=big2 u v;have hk:u<2^(k+i+1):=A0c ha (A0g (by decide) (by omega));have hk':v<2^(k+i+1):=A0c hb (A0g (by decide) (by omega));have:=d3h u.testBit v.testBit i h (k+i+1);rw[if_pos (by omega),if_pos (by omega)] at this;rw[b2h _ _ hk,b2h _ _ hk'];exact this
theorem pop_but2 {j:Nat}(hij:i≠j)(h:∀a,a≠i->a≠j->u.testBit a=v.testBit a):(pop u:Int)-bn (u.testBit i)-bn (u.testBit j)=(pop v:Int)-bn (v.testBit i)-bn (v.testBit j):=by
 obtain⟨k,ha,hb⟩:=big2 u v;have hk:u<2^(k+i+j+1):=A0c ha (A0g (by decide) (by omega));have hk':v<2^(k+i+j+1):=A0c hb (A0g (by decide) (by omega));have h1:=d3h u.testBit (fun a=>if a=i then v.testBit i else u.testBit a) i (fun a ha=>by simp[ha]) (k+i+j+1)
 have h2:=d3h (fun a=>if a=i then v.testBit i else u.testBit a) v.testBit j (fun a ha=>by
  by_cases e:a=i
  ·simp[e]
  ·simp[e,h a e ha]) (k+i+j+1)
 have hji:¬j=i:=fun z=>hij z.symm;rw[if_pos (show i<k+i+j+1 by omega),if_pos (show i<k+i+j+1 by omega)] at h1;rw[if_pos (show j<k+i+j+1 by omega),if_pos (show j<k+i+j+1 by omega)] at h2;simp only[if_true,if_neg hji] at h1 h2;rw[b2h _ _ hk,b2h _ _ hk'];omega
def phi (r:Row):Int:=2*(r.m:Int)+(pop (r.x&&&r.z):Int)
theorem tm_phi (h:a2v r s=false):phi (tm r s)%4=(phi r+phi s+2*(pop (r.z&&&s.x):Int))%4:=by
 have h2:=pop_both r.x r.z s.x s.z;have h3:=(b1n r s).1 h;have h4:=tm_m r s;unfold phi;show (2*((tm r s).m:Int)+(pop ((r.x^^^s.x)&&&(r.z^^^s.z)):Int))%4=_;unfold tmq at h4;omega
theorem tm_of {t:Row}(h:a2v r s=false)(ht:Add3 r s t)(hm:t.m<=1)(hp:phi t%4=(phi r+phi s+2*(pop (r.z&&&s.x):Int))%4):t=tm r s:=by
 have h1:=tm_phi h;have h2:=tm_le r s;rw[<- h1] at hp;obtain⟨m,x,z⟩:=t;obtain⟨e1,e2⟩:=ht;dsimp only at e1 e2 hm;subst e1 e2
 have e3:m=(tm r s).m:=by
  unfold phi at hp;have:(tm r s).x=r.x^^^s.x:=rfl;have:(tm r s).z=r.z^^^s.z:=rfl;simp only[*] at hp;omega
 rw[e3];rfl
theorem xm {m:Nat}(b:Bool):(2*((m^^^b.toNat:Nat):Int))%4=(2*(m:Int)+2*bn b)%4:=by
 have h:(m^^^b.toNat)%2=(m+b.toNat)%2:=by
  have h1:∀u:Nat,u%2=(u.testBit 0).toNat:=fun u=>by rw[A2j];rcases A2c u with h|h<;>rw[h]<;>rfl
  have h2:=h1 (m^^^b.toNat);rw[A0m] at h2;have h3:=h1 m;cases b
  ·simp
  ·simp only[A4t] at h2 ⊢;rw[h2];rw[show (1:Nat).testBit 0=true from rfl];cases e:m.testBit 0<;>rw[e] at h3<;>simp at h3 ⊢ <;> omega
 cases b<;>simp[bn] at h ⊢ <;> omega
theorem pop_ch1 (p q:Bool)(h:∀a,a≠i->u.testBit a=v.testBit a)(hu:u.testBit i=p)(hv:v.testBit i=q):(pop u:Int)=(pop v:Int)+bn p-bn q:=by
 have:=pop_but1 h;rw[hu,hv] at this;omega
theorem pop_ch2 {j:Nat}(p p' q q':Bool)(hij:i≠j)(h:∀a,a≠i->a≠j->u.testBit a=v.testBit a)(hu:u.testBit i=p)(hu':u.testBit j=p')(hv:v.testBit i=q)(hv':v.testBit j=q'):(pop u:Int)=(pop v:Int)+bn p+bn p'-bn q-bn q':=by
 have:=pop_but2 hij h;rw[hu,hv,hu',hv'] at this;omega
theorem c6g {j:Nat}(hk:k.n=1)(r s:Row):(pop ((a3j k i j r).x&&&(a3j k i j s).z):Int)=(pop (r.x&&&s.z):Int)+bn ((a3j k i j r).x.testBit i&&(a3j k i j s).z.testBit i)-bn (r.x.testBit i&&s.z.testBit i):=by
 refine pop_ch1 (i:=i) _ _ (fun a ha=>?_) (A1k ..) (A1k ..);have ha':¬i=a:=fun z=>ha z.symm
 cases k<;>first
  | (exact absurd hk (by decide))
  | (simp only[a3j,A1k,A0m,a7w,ha',decide_false,A2v,A3j])
theorem c5t {j:Nat}(hij:i≠j)(hk:k.n=2)(r s:Row):(pop ((a3j k i j r).x&&&(a3j k i j s).z):Int)=(pop (r.x&&&s.z):Int)+bn ((a3j k i j r).x.testBit i&&(a3j k i j s).z.testBit i)+bn ((a3j k i j r).x.testBit j&&(a3j k i j s).z.testBit j)-bn (r.x.testBit i&&s.z.testBit i)-bn (r.x.testBit j&&s.z.testBit j):=by
 refine pop_ch2 (i:=i) (j:=j) _ _ _ _ hij (fun a ha hb=>?_) (A1k ..) (A1k ..) (A1k ..) (A1k ..);have ha':¬i=a:=fun z=>ha z.symm;have hb':¬j=a:=fun z=>hb z.symm
 cases k<;>first
  | (exact absurd hk (by decide))
  | (simp only[a3j,ex,A1k,A0m,a7w,ha',hb',decide_false,A2v,A3j])
theorem actW_tm {j:Nat}(hj:k.n=2->i≠j)(h:a2v r s=false):a3j k i j (tm r s)=tm (a3j k i j r) (a3j k i j s):=by
 have h':a2v (a3j k i j r) (a3j k i j s)=false:=by rw[actW_symp hj];exact h
 have hp:=tm_phi h;have hle:=tm_le r s;refine tm_of h' (actW_add (tm_add r s)) ?_ ?_
 ·cases k<;>first
   | exact Nat.le_of_lt_succ (A1p (n:=1) (by omega) (Nat.lt_succ_of_le (Bool.toNat_le _)))
   | exact hle
 have ht:Add3 r s (tm r s):=tm_add r s;generalize tm r s=t at hp hle ht ⊢;obtain⟨tx,tz⟩:=ht;have bx:∀q,t.x.testBit q=(r.x.testBit q ^^ s.x.testBit q):=fun q=>by rw[tx,A0m]
 have bz:∀q,t.z.testBit q=(r.z.testBit q ^^ s.z.testBit q):=fun q=>by rw[tz,A0m]
 clear tx tz h h' hle;unfold phi at hp ⊢;rw[A0w r.z s.x] at hp;rw[A0w (a3j k i j r).z]
 have one:k.n=1->∀{e:Row->Bool},(∀u:Row,(a3j k i j u).m=u.m^^^(e u).toNat)->((2*bn (e t)+bn ((a3j k i j t).x.testBit i&&(a3j k i j t).z.testBit i)-bn (t.x.testBit i&&t.z.testBit i))-(2*bn (e r)+bn ((a3j k i j r).x.testBit i&&(a3j k i j r).z.testBit i)-bn (r.x.testBit i&&r.z.testBit i))-(2*bn (e s)+bn ((a3j k i j s).x.testBit i&&(a3j k i j s).z.testBit i)-bn (s.x.testBit i&&s.z.testBit i))-2*(bn ((a3j k i j s).x.testBit i&&(a3j k i j r).z.testBit i)-bn (s.x.testBit i&&r.z.testBit i)))%4=0->(2*((a3j k i j t).m:Int)+(pop ((a3j k i j t).x&&&(a3j k i j t).z):Int))%4=(2*((a3j k i j r).m:Int)+(pop ((a3j k i j r).x&&&(a3j k i j r).z):Int)+(2*((a3j k i j s).m:Int)+(pop ((a3j k i j s).x&&&(a3j k i j s).z):Int))+2*(pop ((a3j k i j s).x&&&(a3j k i j r).z):Int))%4:=fun hk e he hz=>by
  rw[c6g hk t t,c6g hk r r,c6g hk s s,c6g hk s r,he,he,he];have e1:=xm (m:=r.m) (e r);have e2:=xm (m:=s.m) (e s);have e3:=xm (m:=t.m) (e t);omega
 have two:k.n=2->i≠j->∀{e:Row->Bool},(∀u:Row,(a3j k i j u).m=u.m^^^(e u).toNat)->((2*bn (e t)+bn ((a3j k i j t).x.testBit i&&(a3j k i j t).z.testBit i)+bn ((a3j k i j t).x.testBit j&&(a3j k i j t).z.testBit j)-bn (t.x.testBit i&&t.z.testBit i)-bn (t.x.testBit j&&t.z.testBit j))-(2*bn (e r)+bn ((a3j k i j r).x.testBit i&&(a3j k i j r).z.testBit i)+bn ((a3j k i j r).x.testBit j&&(a3j k i j r).z.testBit j)-bn (r.x.testBit i&&r.z.testBit i)-bn (r.x.testBit j&&r.z.testBit j))-(2*bn (e s)+bn ((a3j k i j s).x.testBit i&&(a3j k i j s).z.testBit i)+bn ((a3j k i j s).x.testBit j&&(a3j k i j s).z.testBit j)-bn (s.x.testBit i&&s.z.testBit i)-bn (s.x.testBit j&&s.z.testBit j))-2*(bn ((a3j k i j s).x.testBit i&&(a3j k i j r).z.testBit i)+bn ((a3j k i j s).x.testBit j&&(a3j k i j r).z.testBit j)-bn (s.x.testBit i&&r.z.testBit i)-bn (s.x.testBit j&&r.z.testBit j)))%4=0->(2*((a3j k i j t).m:Int)+(pop ((a3j k i j t).x&&&(a3j k i j t).z):Int))%4=(2*((a3j k i j r).m:Int)+(pop ((a3j k i j r).x&&&(a3j k i j r).z):Int)+(2*((a3j k i j s).m:Int)+(pop ((a3j k i j s).x&&&(a3j k i j s).z):Int))+2*(pop ((a3j k i j s).x&&&(a3j k i j r).z):Int))%4:=fun hk hij e he hz=>by
  rw[c5t hij hk t t,c5t hij hk r r,c5t hij hk s s,c5t hij hk s r,he,he,he];have e1:=xm (m:=r.m) (e r);have e2:=xm (m:=s.m) (e s);have e3:=xm (m:=t.m) (e t);omega
 cases k with
 | over=>
  refine one rfl (e:=fun u=>u.z.testBit i) (fun u=>rfl) ?_;simp only[a3j,bx,bz];generalize r.x.testBit i=a;generalize r.z.testBit i=b;generalize s.x.testBit i=c;generalize s.z.testBit i=d
  revert a b c d;decide
 | quarter=>
  refine one rfl (e:=fun u=>u.x.testBit i&&u.z.testBit i) (fun u=>rfl) ?_;simp only[a3j,bx,bz,A0m,a7w,decide_true,A3m];generalize r.x.testBit i=a;generalize r.z.testBit i=b;generalize s.x.testBit i=c;generalize s.z.testBit i=d
  revert a b c d;decide
 | back=>
  refine one rfl (e:=fun u=>u.x.testBit i && !u.z.testBit i) (fun u=>rfl) ?_;simp only[a3j,bx,bz,A0m,a7w,decide_true,A3m];generalize r.x.testBit i=a;generalize r.z.testBit i=b;generalize s.x.testBit i=c;generalize s.z.testBit i=d
  revert a b c d;decide
 | both=>
  refine one rfl (e:=fun u=>u.x.testBit i&&u.z.testBit i) (fun u=>rfl) ?_;simp only[a3j,bx,bz,A0m,a7w,decide_true,A3m];generalize r.x.testBit i=a;generalize r.z.testBit i=b;generalize s.x.testBit i=c;generalize s.z.testBit i=d
  revert a b c d;decide
 | wher=>
  have hij:=hj rfl;have hji:¬j=i:=fun z=>hij z.symm;refine two rfl hij (e:=fun u=>u.x.testBit i&&u.z.testBit j && !(u.z.testBit i ^^ u.x.testBit j)) (fun u=>rfl) ?_;simp only[a3j,bx,bz,A0m,a7w,hij,hji,decide_true,decide_false,A3m,A2v,A3j];generalize r.x.testBit i=a;generalize r.z.testBit i=b;generalize s.x.testBit i=c;generalize s.z.testBit i=d;generalize r.x.testBit j=a';generalize r.z.testBit j=b';generalize s.x.testBit j=c';generalize s.z.testBit j=d'
  revert a b c d a' b' c' d';decide +kernel
 | swap=>
  have hij:=hj rfl;have hji:¬j=i:=fun z=>hij z.symm;refine two rfl hij (e:=fun u=>false) (fun u=>by show u.m=u.m^^^0;rw[A1t]) ?_;simp only[a3j,ex,bx,bz,A0m,a7w,hij,hji,decide_true,decide_false,A3m,A2v,A3j];generalize r.x.testBit i=a;generalize r.z.testBit i=b;generalize s.x.testBit i=c;generalize s.z.testBit i=d;generalize r.x.testBit j=a';generalize r.z.testBit j=b';generalize s.x.testBit j=c';generalize s.z.testBit j=d'
  revert a b c d a' b' c' d';decide +kernel
theorem act_tm {n:Nat}(ok:d.Ok n)(h:a2v r s=false):act d (tm r s)=tm (act d r) (act d s):=actW_tm (fun e=>(ok.one.2.1 e).2) h
theorem acts_tm {n:Nat}:∀{ds:List Dd},(∀d∈ds,d.Ok n)->∀{r s:Row},a2v r s=false->acts ds (tm r s)=tm (acts ds r) (acts ds s)
 | [],_,_,_,_=>rfl
 | d::ds,h,r,s,hs=>by
  show acts ds (act d (tm r s))=tm (acts ds (act d r)) (acts ds (act d s));rw[act_tm (h d A0d) hs];exact acts_tm (fun c hc=>h c (A0e _ hc)) (by rw[d7b (h d A0d)];exact hs)
theorem tm_z (a b:Nat):tm ⟨0,0,a⟩ ⟨0,0,b⟩=⟨0,0,a^^^b⟩:=by
 have h:(tm ⟨0,0,a⟩ ⟨0,0,b⟩).m=0:=by
  have:=tm_m ⟨0,0,a⟩ ⟨0,0,b⟩;unfold tmq at this;simp only[A9e,A7y,A1q,a9t] at this;simp at this;omega
 show (⟨(tm ⟨0,0,a⟩ ⟨0,0,b⟩).m,0^^^0,a^^^b⟩:Row)=_;rw[h];rfl
theorem tm_im {n:Nat}(h:∀d∈ds,d.Ok n)(a b:Nat):tm (im ds a) (im ds b)=im ds (a^^^b):=by
 unfold im;rw[<- acts_tm h,tm_z];unfold a2v;show (pb (0&&&b) ^^ pb (a&&&0))=false;rw[A9e,A7y];decide +kernel
theorem Spn.zero (l:List Nat):Spn l 0:=⟨0,A0x _,a6e l⟩
theorem Spn.xor (x:Spn l a)(y:Spn l b):Spn l (a^^^b):=by
 obtain⟨m,hm,rfl⟩:=x;obtain⟨k,hk,rfl⟩:=y;exact⟨m^^^k,A1p hm hk,a8g _ _ _⟩
theorem Spn.mem (h:a∈l):Spn l a:=by
 obtain⟨k,hk⟩:=List.getElem?_of_mem h;exact⟨2^k,A1w (by decide) (List.getElem?_eq_some_iff.1 hk).1,b4s hk⟩
theorem xor_back (v b:Nat):v^^^b^^^b=v:=by rw[A1m,A1q,A1t]
theorem Spn.sub {l':List Nat}:∀{l:List Nat} {u:Nat},(∀a∈l,Spn l' a)->Spn l u->Spn l' u
 | [],u,_,h=>by rw[(sp_nil u).1 h];exact Spn.zero _
 | b::l,u,hl,h=>by
  have ih:=fun {v}=>Spn.sub (l':=l') (l:=l) (u:=v) fun a ha=>hl a (A0e _ ha)
  rcases (a7d _ _ _).1 h with h|h
  ·exact ih h
  ·have:=(ih h).xor (hl b A0d);rw[xor_back] at this;exact this
theorem pigeon:∀(N M:Nat) (f:Nat->Nat),(∀i,i<N->f i<M)->(∀i j,i<N->j<N->f i=f j->i=j)->N<=M
 | 0,_,_,_,_=>A1v _
 | N+1,M,f,h1,h2=>by
  have hy:=h1 N (A4a N);have ih:=pigeon N (M-1) (fun i=>if f i=M-1 then f N else f i) (fun i hi=>?_) (fun i j hi hj e=>?_)
  ·omega
  ·have a1:=h1 i (by omega)
   by_cases c:f i=M-1
   ·have:f N≠f i:=fun z=>by have:=h2 N i (by omega) (by omega) z;omega
    simp only[if_pos c];omega
   ·simp only[if_neg c];omega
  ·by_cases c:f i=M-1<;>by_cases d:f j=M-1<;>simp only[if_pos,if_neg,c,d,if_true,if_false] at e
   ·exact h2 i j (by omega) (by omega) (c.trans d.symm)
   ·have:=h2 N j (by omega) (by omega) e;omega
   ·have:=h2 i N (by omega) (by omega) e;omega
   ·exact h2 i j (by omega) (by omega) e
theorem d5m {n:Nat}(f:Nat->Nat)(inj:∀a b,a<2^n->b<2^n->f a=f b->a=b)(h:∀v,v<2^n->Spn l (f v)):n<=l.length:=by
 have hc:∀v,∃m,v<2^n->m<2^l.length/\a2e l m=f v:=fun v=>by
  by_cases c:v<2^n
  ·obtain⟨m,h1,h2⟩:=h v c;exact⟨m,fun _=>⟨h1,h2⟩⟩
  ·exact⟨0,fun z=>absurd z c⟩
 obtain⟨g,hg⟩:=Classical.axiomOfChoice hc;have:=pigeon (2^n) (2^l.length) g (fun i hi=>(hg i hi).1) (fun i j hi hj e=>inj i j hi hj (by rw[<- (hg i hi).2,<- (hg j hj).2,e]));exact(A9w (by decide)).1 this
def Lo (u l:Nat):Prop:=u.testBit l=true/\∀i,i<l->u.testBit i=false
structure Rr (L ls:List Nat):Prop where
 lo:a2a Lo L ls
 up:ls.Pairwise (· < ·)
 no:∀j k u l:Nat,j≠k->L[j]? = some u->ls[k]? = some l->u.testBit l=false
theorem a2a.at {α β:Type}{R:α->β->Prop}:∀{as:List α} {bs:List β},a2a R as bs->∀{k:Nat} {a:α},as[k]? = some a->∃b,bs[k]? = some b/\R a b
 | _,_,.nil,_,_,h=>by cases h
 | _,_,.cons x t,0,a,h=>by cases h;exact⟨_,rfl,x⟩
 | _,_,.cons x t,k+1,a,h=>a2a.at t (k:=k) h
theorem a2a.at' {α β:Type}{R:α->β->Prop}:∀{as:List α} {bs:List β},a2a R as bs->∀{k:Nat} {b:β},bs[k]? = some b->∃a,as[k]? = some a/\R a b
 | _,_,.nil,_,_,h=>by cases h
 | _,_,.cons x t,0,a,h=>by cases h;exact⟨_,rfl,x⟩
 | _,_,.cons x t,k+1,a,h=>a2a.at' t (k:=k) h
theorem a2a.len' {α β:Type}{R:α->β->Prop}:∀{as:List α} {bs:List β},a2a R as bs->as.length=bs.length
 | _,_,.nil=>rfl
 | _,_,.cons _ t=>congrArg (· + 1) t.len'
theorem xsel_at {l:Nat}:∀{L:List Nat} {k m:Nat},(∃u,L[k]? = some u/\u.testBit l=true)->(∀j u,j≠k->L[j]? = some u->u.testBit l=false)->(a2e L m).testBit l=m.testBit k
 | [],k,m,⟨u,h,_⟩,_=>by cases h
 | v::L,0,m,⟨u,h,hb⟩,ho=>by
  cases h;show ((if m.testBit 0=true then v else 0)^^^a2e L (m/2)).testBit l=_
  rw[A0m,b9z _ fun w hw=>by
   obtain⟨j,hj⟩:=List.getElem?_of_mem hw
   exact ho (j+1) w (by omega) hj]
  by_cases c:m.testBit 0=true
  ·rw[if_pos c,hb,c];rfl
  ·rw[if_neg c,A1y,eq_false_of_ne_true c];rfl
 | v::L,k+1,m,h,ho=>by
  show ((if m.testBit 0=true then v else 0)^^^a2e L (m/2)).testBit l=_;rw[A0m,xsel_at (L:=L) (k:=k) (m:=m/2) h fun j u hj hu=>ho (j+1) u (by omega) hu,A5q];have:=ho 0 v (by omega) rfl
  split
  ·rw[this];simp
  ·rw[A1y];simp
theorem xsel_no {l:Nat}:∀{L:List Nat} {m:Nat},(∀k u,m.testBit k=true->L[k]? = some u->u.testBit l=false)->(a2e L m).testBit l=false
 | [],_,_=>A1y _
 | v::L,m,h=>by
  show ((if m.testBit 0=true then v else 0)^^^a2e L (m/2)).testBit l=_;rw[A0m,xsel_no (L:=L) (m:=m/2) fun k u hk hu=>h (k+1) u (by rw[A5q];exact hk) hu]
  by_cases c:m.testBit 0=true
  ·rw[if_pos c,h 0 v c rfl];rfl
  ·rw[if_neg c,A1y];rfl
theorem Rr.bit (h:Rr L ls){k l:Nat}(hk:ls[k]? = some l)(m:Nat):(a2e L m).testBit l=m.testBit k:=by
 obtain⟨u,hu,hl⟩:=h.lo.at' hk;exact xsel_at ⟨u,hu,hl.1⟩ fun j w hj hw=>h.no j k w l hj hw hk
theorem Rr.inj (h:Rr L ls)(ha:a<2^L.length)(hb:b<2^L.length)(e:a2e L a=a2e L b):a=b:=by
 apply A1h;intro k
 by_cases c:k<ls.length
 ·rw[<- h.bit (List.getElem?_eq_getElem c) a,e,h.bit (List.getElem?_eq_getElem c) b]
 ·have hl:=h.lo.len';have p:∀{x:Nat},x<2^L.length->x.testBit k=false:=fun hx=>A0u (A0c hx (A0g (by decide) (by omega)));rw[p ha,p hb]
theorem Rr.leads (h:Rr L ls){l:Nat}(hu:Spn L u)(hl:Lo u l):l∈ls:=by
 obtain⟨m,_,rfl⟩:=hu
 by_cases c:l∈ls
 ·exact c
 exfalso
 have:=xsel_no (l:=l) (L:=L) (m:=m) fun k u hk hu=>by
  obtain⟨l',hl',hlo⟩:=h.lo.at hu;have hb:=h.bit hl' m;rw[hk] at hb;have hne:l≠l':=fun z=>c (z▸List.mem_of_getElem? hl');have hle:¬l'<l:=fun z=>by rw[hl.2 l' z] at hb;cases hb
  exact hlo.2 l (by omega)
 rw[hl.1] at this;cases this
theorem rise_eq:∀{a b:List Nat},a.Pairwise (· < ·)->b.Pairwise (· < ·)->(∀x,x∈a ↔ x∈b)->a=b
 | [],[],_,_,_=>rfl
 | [],y::b,_,_,h=>absurd ((h y).2 A0d) (by simp)
 | x::a,[],_,_,h=>absurd ((h x).1 A0d) (by simp)
 | x::a,y::b,h1,h2,h=>by
  obtain⟨p1,q1⟩:=A3z.1 h1;obtain⟨p2,q2⟩:=A3z.1 h2
  have e:x=y:=by
   rcases A1n.1 ((h x).1 A0d) with e|e
   ·exact e
   ·rcases A1n.1 ((h y).2 A0d) with e2|e2
    ·exact e2.symm
    ·have:=p2 x e;have:=p1 y e2;omega
  subst e;rw[rise_eq q1 q2 fun z=>?_]
  constructor
  ·intro hz
   rcases A1n.1 ((h z).1 (A0e _ hz)) with e|e
   ·have:=p1 z hz;omega
   ·exact e
  ·intro hz
   rcases A1n.1 ((h z).2 (A0e _ hz)) with e|e
   ·have:=p2 z hz;omega
   ·exact e
theorem up_inj (h:ls.Pairwise (· < ·)){j k l:Nat}(hj:ls[j]? = some l)(hk:ls[k]? = some l):j=k:=by
 have lt:∀{a b:Nat},a<b->ls[a]? = some l->ls[b]? = some l->False:=fun {a b} hab ha hb=>by
  obtain⟨a1,a2⟩:=List.getElem?_eq_some_iff.1 ha;obtain⟨b1,b2⟩:=List.getElem?_eq_some_iff.1 hb;have:=List.pairwise_iff_getElem.1 h a b a1 b1 hab;omega
 rcases Nat.lt_trichotomy j k with c|c|c
 ·exact(lt c hj hk).elim
 ·exact c
 ·exact(lt c hk hj).elim
theorem Rr.one {L' ls':List Nat}(h:Rr L ls)(h':Rr L' ls')(s:∀u,Spn L u ↔ Spn L' u):L=L':=by
 have e:ls=ls':=rise_eq h.up h'.up fun x=>by
  constructor
  ·intro hx;obtain⟨k,hk⟩:=List.getElem?_of_mem hx;obtain⟨u,hu,hl⟩:=h.lo.at' hk;exact h'.leads ((s u).1 (Spn.mem (List.mem_of_getElem? hu))) hl
  ·intro hx;obtain⟨k,hk⟩:=List.getElem?_of_mem hx;obtain⟨u,hu,hl⟩:=h'.lo.at' hk;exact h.leads ((s u).2 (Spn.mem (List.mem_of_getElem? hu))) hl
 subst e;have l1:=h.lo.len';have l2:=h'.lo.len';apply List.ext_getElem?;intro k
 by_cases c:k<ls.length
 ·obtain⟨u,hu,hl⟩:=h.lo.at' (List.getElem?_eq_getElem c);obtain⟨u',hu',hl'⟩:=h'.lo.at' (List.getElem?_eq_getElem c);obtain⟨m,hm,e⟩:=(s u).1 (Spn.mem (List.mem_of_getElem? hu))
  have em:m=2^k:=by
   apply A1h;intro q;rw[A2q]
   by_cases cq:q<ls.length
   ·rw[<- h'.bit (List.getElem?_eq_getElem cq) m,e]
    by_cases ck:k=q
    ·subst ck;rw[hl.1];simp
    ·rw[h.no k q u _ ck hu (List.getElem?_eq_getElem cq)];simp[ck]
   ·rw[A0u (A0c hm (A0g (by decide) (by omega)))];have:¬k=q:=by omega
    simp[this]
  rw[em,b4s hu'] at e;rw[hu,hu',e]
 ·rw[List.getElem?_eq_none (by omega),List.getElem?_eq_none (by omega)]
def sn (n:Nat)(r:Row):Nat:=r.x^^^r.z*2^n
theorem sn_add {n:Nat}{t:Row}(h:Add3 r s t):sn n t=sn n r^^^sn n s:=by
 unfold sn;rw[h.1,h.2,c8f];exact x4 _ _ _ _
theorem sn_tm {n:Nat}(r s:Row):sn n (tm r s)=sn n r^^^sn n s:=sn_add (tm_add r s)
theorem sn_lt {n:Nat}(ok:r.Ok n):sn n r<2^(2*n):=by
 refine A1p (A0c ok.x (A0g (by decide) (by omega))) ?_;rw[show 2*n=n+n by omega,A6c];exact A8q ok.z (A0x n)
def Wr (ds:List Dd)(n:Nat)(r:Row):Prop:=∃v,v<2^n/\r=im ds v
theorem Wr.tm {ds:List Dd}{n:Nat}(h:∀d∈ds,d.Ok n){r s:Row}(a:Wr ds n r)(b:Wr ds n s):Wr ds n (tm r s):=by
 obtain⟨v,hv,rfl⟩:=a;obtain⟨w,hw,rfl⟩:=b;exact⟨v^^^w,A1p hv hw,tm_im h v w⟩
theorem Wr.ok {n:Nat}(h:∀d∈ds,d.Ok n)(a:Wr ds n r):r.Ok n:=by
 obtain⟨v,hv,rfl⟩:=a;exact d4c h hv
theorem Wr.com {n:Nat}(h:∀d∈ds,d.Ok n)(a:Wr ds n r)(b:Wr ds n s):a2v r s=false:=by
 obtain⟨v,hv,rfl⟩:=a;obtain⟨w,hw,rfl⟩:=b;exact d4a h v w
theorem snim_inj {n:Nat}(h:∀d∈ds,d.Ok n)(ha:a<2^n)(hb:b<2^n)(e:sn n (im ds a)=sn n (im ds b)):a=b:=by
 obtain⟨e1,e2⟩:=c7r (d4c h ha).x (d4c h hb).x e;have h2:=(b7y (ds:=undo ds) e1 e2).2;unfold im at h2;rw[a6a h,a6a h] at h2;exact h2
theorem Wr.inj {n:Nat}(h:∀d∈ds,d.Ok n)(a:Wr ds n r)(b:Wr ds n s)(e:sn n r=sn n s):r=s:=by
 obtain⟨v,hv,rfl⟩:=a;obtain⟨w,hw,rfl⟩:=b;rw[snim_inj h hv hw e]
structure Wl (ds:List Dd)(n:Nat)(rs:List Row):Prop where
 len:rs.length=n
 wh:∀r∈rs,Wr ds n r
 sp:∀v,v<2^n->Spn (rs.map (sn n)) (sn n (im ds v))
theorem Wl.plain {ds:List Dd}{n:Nat}(hn:n<=40)(h:∀d∈ds,d.Ok n):Wl ds n ((A3a n).map fun k=>im ds (2^k)):=by
 have p:=Mx.plain hn h (A0k n);have p40:=A0g (show 0<2 by decide) hn;refine⟨p.len,fun r hr=>?_,fun v hv=>?_⟩
 ·obtain⟨k,hk,rfl⟩:=A0r.1 hr;exact⟨2^k,A1w (by decide) (A6q.1 hk),rfl⟩
 ·obtain⟨m,hm,e⟩:=(p.sp _).2 ⟨v,hv,rfl⟩;have ok:=d4c h hv;have e2:=(c3b (w:=40) (fun s hs=>A0c (p.ok s hs).x p40) (A0c ok.x p40) m).1 e;refine⟨m,by rw[A0b] at hm ⊢;exact hm,(c3b (w:=n) (fun s hs=>(p.ok s hs).x) ok.x m).2 e2⟩
def stp (n s:Nat)(g r:Row):Row:=if (sn n r).testBit s=true then tm r g else r
theorem stp_wr {n s:Nat}(h:∀d∈ds,d.Ok n)(a:Wr ds n g)(b:Wr ds n r):Wr ds n (stp n s g r):=by
 unfold stp
 split
 ·exact b.tm h a
 ·exact b
theorem d5c {n s q:Nat}(hq:(sn n g).testBit q=false):(sn n (stp n s g r)).testBit q=(sn n r).testBit q:=by
 unfold stp
 split
 ·rw[sn_tm,A0m,hq,A3j]
 ·rfl
theorem stp_self {n s:Nat}(hs:(sn n g).testBit s=true):(sn n (stp n s g r)).testBit s=false:=by
 unfold stp
 split
 ·rename_i h;rw[sn_tm,A0m,h,hs];rfl
 ·rename_i h;exact eq_false_of_ne_true h
structure Ti (ds:List Dd)(n s:Nat)(b1g told:List Row)(ls:List Nat):Prop where
 wr:∀r∈b1g,Wr ds n r
 wt:∀r∈told,Wr ds n r
 sp:∀v,v<2^n->Spn (b1g.map (sn n)++told.map (sn n)) (sn n (im ds v))
 lo:∀r∈b1g,∀i,i<s->(sn n r).testBit i=false
 rr:Rr (told.map (sn n)) ls
 lt:∀l∈ls,l<s
theorem Ti.start {n:Nat}(h:Wl ds n rs):Ti ds n 0 rs [] []:=
 ⟨h.wh,fun _ h=>(nomatch h),fun v hv=>by rw[A9b,A3d];exact h.sp v hv,fun _ _ _ h=>(nomatch h),⟨.nil,A7p,fun _ _ _ _ _ h=>(nomatch h)⟩,fun _ h=>(nomatch h)⟩
theorem Ti.none {n s:Nat}{b1g:List Row}(h:Ti ds n s b1g told ls)(hn:∀r∈b1g,(sn n r).testBit s=false):Ti ds n (s+1) b1g told ls:=
 ⟨h.wr,h.wt,h.sp,fun r hr i hi=>by
  rcases A9x.1 hi with h1|h1
  ·exact h.lo r hr i h1
  ·rw[h1];exact hn r hr,h.rr,fun l hl=>A6j (h.lt l hl)⟩
theorem a2a.mapL {α β γ:Type}{R:α->γ->Prop}{S:β->γ->Prop}{f:α->β}:∀{as:List α} {cs:List γ},a2a R as cs->(∀a c,a∈as->c∈cs->R a c->S (f a) c)->a2a S (as.map f) cs
 | _,_,.nil,_=>.nil
 | _,_,.cons x t,h=>.cons (h _ _ A0d A0d x) (a2a.mapL t fun a c ha hc=>h a c (A0e _ ha) (A0e _ hc))
theorem a2a.mapI {α β γ:Type}{R:β->γ->Prop}{f:α->β}:∀{as:List α} {cs:List γ},a2a R (as.map f) cs->a2a (fun a c=>R (f a) c) as cs
 | [],_,.nil=>.nil
 | _::_,_,.cons x t=>.cons x (a2a.mapI t)
theorem Ti.some {ds:List Dd}{n s:Nat}(hds:∀d∈ds,d.Ok n){b1g told:List Row}{ls:List Nat}(h:Ti ds n s b1g told ls){g:Row}(hg:g∈b1g)(hs:(sn n g).testBit s=true):Ti ds n (s+1) (b1g.map (stp n s g)) (told.map (stp n s g)++[g]) (ls++[s]):=by
 have wg:=h.wr g hg;have gl:=h.lo g hg;refine⟨fun r hr=>?_,fun r hr=>?_,fun v hv=>(h.sp v hv).sub fun a ha=>?_,fun r hr i hi=>?_,?_,fun l hl=>?_⟩
 ·obtain⟨u,hu,rfl⟩:=A0r.1 hr;exact stp_wr hds wg (h.wr u hu)
 ·rcases A0p.1 hr with hr|hr
  ·obtain⟨u,hu,rfl⟩:=A0r.1 hr;exact stp_wr hds wg (h.wt u hu)
  ·rw[A0h.1 hr];exact wg
 ·have s1:Spn ((b1g.map (stp n s g)).map (sn n)++(told.map (stp n s g)++[g]).map (sn n)) (sn n g):=Spn.mem (A0v _ (A0r.2 ⟨g,A0v _ (A0h.2 rfl),rfl⟩))
  have key:∀r,Spn ((b1g.map (stp n s g)).map (sn n)++(told.map (stp n s g)++[g]).map (sn n)) (sn n (stp n s g r))->Spn ((b1g.map (stp n s g)).map (sn n)++(told.map (stp n s g)++[g]).map (sn n)) (sn n r):=fun r hr=>by
   unfold stp at hr
   split at hr
   ·have:=hr.xor s1;rw[sn_tm,xor_back] at this;exact this
   ·exact hr
  rcases A0p.1 ha with ha|ha
  ·obtain⟨u,hu,rfl⟩:=A0r.1 ha;exact key u (Spn.mem (A2g _ (A0r.2 ⟨_,A0r.2 ⟨u,hu,rfl⟩,rfl⟩)))
  ·obtain⟨u,hu,rfl⟩:=A0r.1 ha;exact key u (Spn.mem (A0v _ (A0r.2 ⟨_,A2g _ (A0r.2 ⟨u,hu,rfl⟩),rfl⟩)))
 ·obtain⟨u,hu,rfl⟩:=A0r.1 hr
  rcases A9x.1 hi with h1|h1
  ·rw[d5c (gl i h1)];exact h.lo u hu i h1
  ·rw[h1];exact stp_self hs
 ·have hlo:a2a Lo ((told.map (stp n s g)).map (sn n)) ls:=by
   rw[A3u];refine(a2a.mapI h.rr.lo).mapL fun a c ha hc hl=>?_;have hc':=h.lt c hc;refine⟨by rw[B1g,d5c (gl c hc')];exact hl.1,fun i hi=>by rw[B1g,d5c (gl i (by omega))];exact hl.2 i hi⟩
  refine⟨?_,?_,?_⟩
  ·rw[A0f,A3y];exact hlo.snoc ⟨hs,gl⟩
  ·refine A6n.2 ⟨h.rr.up,A7g _ _,fun a ha b hb=>?_⟩;rw[A0h.1 hb];exact h.lt a ha
  ·intro j k u l hjk hu hl;rw[A0f,A3y] at hu;have le:=hlo.len';have lj:=(List.getElem?_eq_some_iff.1 hu).1;have lk:=(List.getElem?_eq_some_iff.1 hl).1;rw[A0j,A3e] at lj lk
   by_cases ck:k<ls.length
   ·rw[List.getElem?_append_left ck] at hl;have hl':=h.lt l (List.mem_of_getElem? hl)
    by_cases cj:j<ls.length
    ·rw[List.getElem?_append_left (by omega),A3u,List.getElem?_map] at hu
     cases e:told[j]? with
     | none=>rw[e] at hu;cases hu
     | some t=>
      rw[e] at hu;obtain rfl:sn n (stp n s g t)=u:=A0s hu;rw[d5c (gl l hl')];exact h.rr.no j k (sn n t) l hjk (by rw[List.getElem?_map,e];rfl) hl
    ·rw[List.getElem?_append_right (by omega)] at hu;have:j-((told.map (stp n s g)).map (sn n)).length=0:=by omega
     rw[this] at hu;obtain rfl:sn n g=u:=A0s hu;exact gl l hl'
   ·rw[List.getElem?_append_right (by omega)] at hl;have:k-ls.length=0:=by omega
    rw[this] at hl;obtain rfl:s=l:=A0s hl;rw[List.getElem?_append_left (by omega),A3u,List.getElem?_map] at hu
    cases e:told[j]? with
    | none=>rw[e] at hu;cases hu
    | some t=>
     rw[e] at hu;obtain rfl:sn n (stp n s g t)=u:=A0s hu;exact stp_self hs
 ·rcases A0p.1 hl with hl|hl
  ·exact A6j (h.lt l hl)
  ·rw[A0h.1 hl];exact A4a s
structure Tl (ds:List Dd)(n:Nat)(told:List Row)(ls:List Nat):Prop where
 wl:Wl ds n told
 rr:Rr (told.map (sn n)) ls
 lt:∀l∈ls,l<2*n
theorem Ti.done {n:Nat}(hn:n<=40)(hds:∀d∈ds,d.Ok n){b1g:List Row}(h:Ti ds n (2*n) b1g told ls):Tl ds n told ls:=by
 have sp:∀v,v<2^n->Spn (told.map (sn n)) (sn n (im ds v)):=fun v hv=>(h.sp v hv).sub fun a ha=>by
  rcases A0p.1 ha with ha|ha
  ·obtain⟨u,hu,rfl⟩:=A0r.1 ha
   have e:sn n u=0:=by
    apply A1h;intro i;rw[A1y]
    by_cases c:i<2*n
    ·exact h.lo u hu i c
    ·exact A0u (A0c (sn_lt ((h.wr u hu).ok hds)) (A0g (by decide) (by omega)))
   rw[e];exact Spn.zero _
  ·exact Spn.mem ha
 refine⟨⟨?_,h.wt,sp⟩,h.rr,h.lt⟩;have h1:=d5m (fun v=>sn n (im ds v)) (fun a b ha hb e=>snim_inj hds ha hb e) sp;rw[A0b] at h1;refine B0u ?_ h1;have h2:=d5m (l:=(((A3a n).map fun k=>im ds (2^k)).map (sn n))) (n:=told.length) (a2e (told.map (sn n))) (fun a b ha hb e=>h.rr.inj (by rw[A0b];exact ha) (by rw[A0b];exact hb) e) (fun v hv=>?_)
 ·rw[A0b,A0b,A3w] at h2;exact h2
 ·have:∀(L:List Row) (m:Nat),(∀r∈L,Wr ds n r)->∃v,v<2^n/\a2e (L.map (sn n)) m=sn n (im ds v):=by
   intro L
   induction L with
   | nil=>
    intro m _;refine⟨0,A0x n,?_⟩;have:=sn_tm (n:=n) (im ds 0) (im ds 0);rw[tm_im hds,A1q,A1q] at this;exact this.symm
   | cons r L ih=>
    intro m hL;obtain⟨v,hv,e⟩:=ih (m/2) fun r hr=>hL r (A0e _ hr);obtain⟨w,hw,rfl⟩:=hL r A0d;show ∃u,u<2^n/\(if m.testBit 0=true then sn n (im ds w) else 0)^^^a2e (L.map (sn n)) (m/2)=sn n (im ds u)
    split
    ·exact⟨w^^^v,A1p hw hv,by rw[e,<- sn_tm,tm_im hds]⟩
    ·exact⟨v,hv,by rw[A2d,e]⟩
  obtain⟨u,hu,e⟩:=this told v h.wt;rw[e];exact(Wl.plain hn hds).sp u hu
theorem Tl.one {ds:List Dd}{n:Nat}(hds:∀d∈ds,d.Ok n){a b:List Row}{ls ks:List Nat}(h:Tl ds n a ls)(h':Tl ds n b ks):a=b:=by
 have sub:∀{a b:List Row} {ls ks:List Nat},Tl ds n a ls->Tl ds n b ks->∀u,Spn (a.map (sn n)) u->Spn (b.map (sn n)) u:=fun ha hb u hu=>hu.sub fun x hx=>by
  obtain⟨r,hr,rfl⟩:=A0r.1 hx;obtain⟨v,hv,rfl⟩:=ha.wl.wh r hr;exact hb.wl.sp v hv
 have e:=h.rr.one h'.rr fun u=>⟨sub h h' u,sub h' h u⟩
 have key:∀{a b:List Row},(∀r∈a,Wr ds n r)->(∀r∈b,Wr ds n r)->a.map (sn n)=b.map (sn n)->a=b:=by
  intro a
  induction a with
  | nil=>intro b _ _ e;cases b with
   | nil=>rfl
   | cons=>cases e
  | cons r a ih=>intro b h1 h2 e;cases b with
   | nil=>cases e
   | cons s b=>
    rw[A2a,A2a,B0x] at e;rw[(h1 r A0d).inj hds (h2 s A0d) e.1,ih (fun r hr=>h1 r (A0e _ hr)) (fun r hr=>h2 r (A0e _ hr)) e.2]
 exact key h.wl.wh h'.wl.wh e
def Dep (us:List Nat):Prop:=∃k u,us[k]? = some u/\Spn (us.eraseIdx k) u
theorem ss_zero:∀{ss:List Sm} {m:Nat},(∀s∈ss,s.t.testBit s.j=true)->ss.Pairwise (fun a b=>b.t.testBit a.j=false)->m<2^ss.length->a2e (ss.map Sm.t) m=0->m=0
 | [],m,_,_,hm,_=>by
  have:(2:Nat)^([]:List Sm).length=1:=rfl;omega
 | u::r,m,h1,h2,hm,e=>by
  obtain⟨o1,o2⟩:=A3z.1 h2;have e':(if m.testBit 0=true then u.t else 0)^^^a2e (r.map Sm.t) (m/2)=0:=e
  have hy:(a2e (r.map Sm.t) (m/2)).testBit u.j=false:=b9z _ fun v hv=>by
   obtain⟨t,ht,rfl⟩:=A0r.1 hv;exact o1 t ht
  by_cases hb:m.testBit 0=true
  ·rw[if_pos hb] at e';have:=congrArg (fun v=>v.testBit u.j) e';simp only[A0m,hy,h1 u A0d,A1y] at this;cases this
  ·rw[if_neg hb,A2d] at e'
   have hm':m/2<2^r.length:=by
    rw[A1c,A2s] at hm;omega
   have h0:=ss_zero (fun t ht=>h1 t (A0e _ ht)) o2 hm' e'
   have hb':m%2=0:=by
    rw[A2j] at hb;simp at hb;omega
   omega
theorem ss_inj {ss:List Sm}(h1:∀s∈ss,s.t.testBit s.j=true)(h2:ss.Pairwise (fun a b=>b.t.testBit a.j=false))(ha:a<2^ss.length)(hb:b<2^ss.length)(e:a2e (ss.map Sm.t) a=a2e (ss.map Sm.t) b):a=b:=by
 have h:=ss_zero h1 h2 (A1p ha hb) (by rw[a8g,e,A1q]);have:=congrArg (· ^^^ b) h
 simp only[A1m,A1q,A1t,A2d] at this;exact this
theorem xsel_spn (h:∀v∈vs,Spn l v):∀m,Spn l (a2e vs m):=by
 induction vs with
 | nil=>intro m;exact Spn.zero l
 | cons v vs ih=>
  intro m;have h2:=ih (fun u hu=>h u (A0e _ hu)) (m/2);show Spn l ((if m.testBit 0=true then v else 0)^^^a2e vs (m/2));refine Spn.xor ?_ h2
  split
  ·exact h v A0d
  ·exact Spn.zero l
theorem d6x.dep {us:List Nat}{ss:List Sm}(ok:d6x us ss)(e:ss.length=us.length):¬Dep us:=by
 rintro⟨k,u,hk,hu⟩;have hkl:=(List.getElem?_eq_some_iff.1 hk).1
 have hall:∀v∈us,Spn (us.eraseIdx k) v:=fun v hv=>by
  obtain⟨i,hi⟩:=List.getElem?_of_mem hv
  by_cases c:i=k
  ·subst c;rw[hk] at hi;cases hi;exact hu
  ·exact Spn.mem (List.mem_eraseIdx_iff_getElem?.2 ⟨i,c,hi⟩)
 have:=d5m (l:=us.eraseIdx k) (n:=ss.length) (a2e (ss.map Sm.t)) (fun a b ha hb e=>ss_inj ok.bit ok.ord ha hb e) (fun v _=>xsel_spn (fun t ht=>by
  obtain⟨s,hs,rfl⟩:=A0r.1 ht;rw[ok.tot s hs]
  exact xsel_spn hall _) v)
 rw[List.length_eraseIdx,if_pos hkl] at this;omega
def Gd (n:Nat)(rs:List Row):Prop:=rs.length=n/\(∀r∈rs,∀s∈rs,a2v r s=false)/\¬Dep (rs.map (sn n))
end Tw
namespace L2
open PySem PySem.Spec PyProof.Rows
variable {sc:Scope}{s:Shared}
theorem d5q {M:Model}{A:Around}{E:Value->Shared->Prop}{scope:Scope}{x2:Str}{globals:Addr}{cl:List (Str×Addr)}{qual:Str}{env:Env}{Q:Env->Shared->Prop}
  (lay:∀a cl,cellsFrom a scope.names cl=(x2,a)::cl)
  (hQ:∀h',h'.Ns s.heap.objs.size (fun _=>none)->h'.IsCell (s.heap.objs.size+1) none->(∀b o,s.heap.get? b=some o->h'.get? b=some o)->
   Q (newEnv scope s.heap.objs.size globals ((x2,s.heap.objs.size+1)::cl) qual none .none (some env) builtinsNs) { s with heap:=h' }) :
  wpAny M A (newFunctionEnv scope globals cl [] qual none .none (some env)) Q E s:=by
 simp only[newFunctionEnv,B1r,if_true];refine A0n (wpAny_alloc ?_);refine A0n (wpAny_layCells _ (fun name kind cells=>by cases hkc:kind==A8h<;>simp[hkc]) _ _ _ _ ?_)
 rw[show ({ s with heap:=s.heap.push { cls:=.type "dict",data:=.dict #[] } }:Shared).heap.objs.size=s.heap.objs.size+1 from A4p ..,lay,List.forIn_nil];have ok:=cellsFrom_ok scope.names (s.heap.push { cls:=.type "dict",data:=.dict #[] }) (s.heap.objs.size+1) [] ⟨fun _ _ hm=>(nomatch hm),A7p⟩ (by rw[A4p];exact A0k _);rw[A4p,lay] at ok;refine A0n (A1e (A1e (hQ _ ((Heap.Ns.new s.heap (.type "dict")).keeps (pushCells_keeps _ _)) (ok.empty x2 _ A0d).1 fun b o e=>pushCells_keeps _ _ b o (Heap.get?_push_of_some _ e))))
theorem b5u {a b:Str}(h:a≠b):(a==b)=false:=beq_eq_false_iff_ne.mpr h
structure a3z (sc:Scope)(x x2:Str)(scope:Scope):Prop where
 kind:scope.kind=.function
 cell:∀y∈scope.names,y.2=.cell->y.1=x2
 lay:∀a cl,cellsFrom a scope.names cl=(x2,a)::cl
 own:scope.names.lookup x=some .local
 own2:scope.names.lookup x2=some .cell
 loc:∀y∈scope.names,y.2=.local->y.1=x\/y.1=(".0":Str)
 nam:∀y∈scope.names,y.2=.local->scope.names.lookup y.1=some .local
 free:∀y∈scope.names,y.2=.free->sc.names.lookup y.1=some .cell\/sc.names.lookup y.1=some .free
 two:∀y∈scope.names,y.2=.free->y.1≠x/\y.1≠x2
def Cx.compN (X:Cx)(M:List Str)(scope:Scope)(x x2:Str)(C:Addr)(s:Shared)(H:Hp)(ex:List Addr):Cx:=
 { X with N:=x::x2::M,s₀:=s,H₀:=H,env:=compEnvC scope ((x2,C+1)::d4y X.env scope.names []) C X.env,outer:=X.stack,ex:=ex,fn:=fun y=>y==x2,pn:=[],xe:=fun _ _=>False }
section
variable {X:Cx}{M:List Str}{pins:List (Addr×Obj)}{σ:St}{H:Hp}{s:Shared}{scope:Scope}{x x2:Str}
theorem a3z.has (S:a3z X.env.scope x x2 scope)(ok:X.Ok):∀p∈scope.names,p.2=.free->∃c,X.env.cells.lookup p.1=some c:=fun p hp e=>ok.has p.1 (S.free p hp e)
theorem a3z.cells (S:a3z X.env.scope x x2 scope)(ok:X.Ok){y:Str}{c:Addr}(e:(d4y X.env scope.names []).lookup y=some c):X.env.cells.lookup y=some c:=by
 rcases b4q X.env scope.names [] (S.has ok) c e with z|z
 ·cases z
 ·exact z
theorem a3z.cases (S:a3z X.env.scope x x2 scope)(ok:X.Ok){C:Addr}{y:Str}{c:Addr}(e:((x2,C)::d4y X.env scope.names []).lookup y=some c):(y=x2/\c=C)\/(y≠x2/\X.env.cells.lookup y=some c):=by
 rw[A1g] at e
 cases hb:y==x2 with
 | true=>rw[hb] at e;cases e;exact .inl ⟨eq_of_beq hb,rfl⟩
 | false=>rw[hb] at e;exact .inr ⟨(fun z=>by rw[z,beq_self_eq_true] at hb;cases hb),S.cells ok e⟩
theorem a3z.rl2 (S:a3z X.env.scope x x2 scope):(relabel scope X.env).names.lookup x2=some .cell:=by
 rw[a3u,S.own2,A2k];unfold rlb;have:(A8h==A2y)=false:=by decide
 rw[this];rfl
theorem a3z.sees (S:a3z X.env.scope x x2 scope){y:Str}(hy2:y≠x2)(hy:(relabel scope X.env).names.lookup y≠some .local)(hv:Vis (relabel scope X.env) y):(y,A2y)∈scope.names/\((relabel scope X.env).names.lookup y=some .cell\/(relabel scope X.env).names.lookup y=some .free):=by
 unfold Vis at hv;rw[a3u] at hv ⊢
 cases e:scope.names.lookup y with
 | none=>rw[e] at hv;rcases hv with z|z|z<;>cases z
 | some k=>
  have hm:=mem_of_lookup e;rw[e] at hv
  have hk:k=.free:=by
   by_cases hf:k=.free
   ·exact hf
   ·have hr:rlb X.env y k=k:=by
     unfold rlb;have:(k==A2y)=false:=by simpa using hf
     rw[this];rfl
    rw[A2k,hr] at hv
    rcases hv with z|z|z
    ·rw[a3u,e,A2k,hr] at hy;exact absurd z hy
    ·exact absurd (S.cell _ hm (A0s z)) hy2
    ·exact A0s z
  subst hk;refine⟨hm,?_⟩;rw[A2k];unfold rlb
  split
  ·exact .inl rfl
  ·exact .inr rfl
theorem a3z.ok (S:a3z X.env.scope x x2 scope)(I:Inv X pins σ H s){C:Addr}(hC:s.heap.objs.size<=C){fp:List Addr}(hf:∀b∈fp,FpOk X pins H b)(hl:∀b∈fp,b<s.heap.objs.size):(X.compN M scope x x2 C s H fp).Ok where
 mod:=I.ok.mod
 kind:=S.kind
 glob:=I.ok.glob
 blt:=I.ok.blt
 above:=hC
 inj:=fun y z c e1 e2=>by
  have lt:∀{u:Str} {c:Addr},X.env.cells.lookup u=some c->c<s.heap.objs.size:=fun {u c} e=>by
   obtain⟨v,q⟩:=I.cell u c e;exact q.lt
  rcases S.cases I.ok e1 with ⟨a1,b1⟩|⟨a1,b1⟩<;>rcases S.cases I.ok e2 with ⟨a2,b2⟩|⟨a2,b2⟩
  ·rw[a1,a2]
  ·have h2:=lt b2;rw[b1] at h2;exact absurd (A0c h2 hC) (by exact Nat.not_lt.mpr (A5x _))
  ·have h2:=lt b1;rw[b2] at h2;exact absurd (A0c h2 hC) (by exact Nat.not_lt.mpr (A5x _))
  ·exact I.ok.inj y z c b1 b2
 has:=fun y hy=>by
  have hv:Vis (relabel scope X.env) y:=.inr hy
  have hne:(relabel scope X.env).names.lookup y≠some .local:=fun e=>by
   have hy':(relabel scope X.env).names.lookup y=some .cell\/(relabel scope X.env).names.lookup y=some .free:=hy;rw[e] at hy'
   rcases hy' with q|q<;>cases q
  by_cases hy2:y=x2
  ·exact⟨C+1,by show A4d y ((x2,C+1)::_)=_;rw[hy2,A1g,beq_self_eq_true]⟩
  ·obtain⟨c,hc⟩:=b7r X.env scope.names [] (.inl (S.sees hy2 hne hv).1);refine⟨c,?_⟩;show A4d y ((x2,C+1)::_)=_;rw[A1g,b5u hy2];exact hc
 cab:=fun y c z e=>by
  have z':y=x2:=eq_of_beq z
  rcases S.cases I.ok e with ⟨_,b1⟩|⟨a1,_⟩
  ·show s.heap.objs.size<=c;rw[b1];exact Nat.le_succ_of_le hC
  ·exact absurd z' a1
 hd:=I.ok.hd
 frames:=I.ok.frames
 stk:=.inl rfl
 exf:=fun b hb=>⟨fun z=>by
   have h1:=hl b hb;have z':b=C:=z;rw[z'] at h1
   exact Nat.not_le.mpr h1 hC,fun y c e=>by
   rcases S.cases I.ok e with ⟨_,b1⟩|⟨_,b1⟩
   ·intro z;rw[b1] at z;have h2:=hl b hb;rw[<- z] at h2;exact absurd (A0c h2 hC) (Nat.not_lt.mpr (A5x _))
   ·exact(hf b hb).2.2.2.2.1 y c b1⟩
 bs:=I.bs
 bsz:=A1z I.ok.bsz I.sz
 noex:=fun b o e hb=>by
  rcases (hf b hb).2.2.2.1 with z|z
  ·exact I.ok.noex b o e z
  ·have h1:=A0y e;have h2:=I.ok.bsz;exact absurd (A0c (A0c h1 h2) z) (A2z _)
 exfs:=fun b hb z=>by
  rcases List.mem_cons.mp (I.stkSub b z) with q|q
  ·exact(hf b hb).2.1 q
  ·exact(hf b hb).2.2.1 q
 funs:=I.stack
 frf:=I.stkFree
theorem a3z.inv (S:a3z X.env.scope x x2 scope)(hx:x∉M)(hx2:x2∉M)(hxx:x≠x2)(h0:(".0":Str)∉M)(hlen:M.length=X.N.length)(hM:∀(j:Nat) y,M[j]? = some y->X.N[j]? = some y\/scope.names.lookup y=none)(I:Inv X pins σ H s){C:Addr}(hC:s.heap.objs.size<=C){fp:List Addr}(hf:∀b∈fp,FpOk X pins H b)(hl:∀b∈fp,b<s.heap.objs.size){h1:Heap}{t1:Nat}
  (old:∀b o,s.heap.get? b=some o->h1.get? b=some o) {m:Str->Option Value} (ns:h1.Ns C m) (hcl:h1.IsCell (C+1) none):Inv (X.compN M scope x x2 C s H fp) [] (none::none::σ) H { s with heap:=h1,toks:=t1 } where
 ok:=S.ok I hC hf hl
 os:=rfl
 bare:=I.bare
 base:=Un.kept old
 loc:=by
  refine⟨m,ns,fun i y v e1 e2 hv=>?_⟩
  match i,e1,e2 with
  | 0,_,e2=>cases e2
  | 1,_,e2=>cases e2
  | j+2,e1,e2=>
   have e1':M[j]? = some y:=by simpa[Cx.compN] using e1
   have e2':σ[j]? = some (some v):=by simpa using e2
   by_cases hy:(relabel scope X.env).names.lookup y=some .local
   ·exfalso;rw[a3u] at hy
    cases e:scope.names.lookup y with
    | none=>rw[e] at hy;cases hy
    | some k=>
     rw[e,A2k] at hy
     have hk:k=.local:=by
      have hy':=A0s hy;unfold rlb at hy'
      split at hy'
      ·cases hy'
      ·exact hy'
     rcases S.loc _ (mem_of_lookup e) hk with z|z
     ·have z':y=x:=z;subst z';exact hx (List.mem_of_getElem? e1')
     ·have z':y=(".0":Str):=z;subst z';exact h0 (List.mem_of_getElem? e1')
   ·have hy2:y≠x2:=fun z=>hx2 (z▸List.mem_of_getElem? e1');obtain⟨hm,hk⟩:=S.sees hy2 hy hv;obtain⟨m0,_,hl0⟩:=I.loc;have hx0:Vis X.env.scope y:=.inr (S.free _ hm rfl)
    have e1':X.N[j]? = some y:=by
     rcases hM j y e1' with z|z
     ·exact z
     ·exfalso;unfold Vis at hv;have hv':(relabel scope X.env).names.lookup y=some .local\/(relabel scope X.env).names.lookup y=some .cell\/(relabel scope X.env).names.lookup y=some .free:=hv;rw[a3u,z] at hv'
      rcases hv' with q|q|q<;>cases q
    obtain⟨u,r,l⟩:=hl0 j y v e1' e2' hx0;refine⟨u,r,.inr ⟨hk,?_⟩⟩;obtain⟨c,hc⟩:=b7r X.env scope.names [] (.inl hm);refine⟨c,by show A4d y ((x2,C+1)::_)=_;rw[A1g,b5u hy2];exact hc,?_⟩;have hc0:=S.cells I.ok hc
    rcases l with ⟨k0,_⟩|⟨_,c0,e0,q0⟩
    ·rcases S.free _ hm rfl with z|z
     ·have k0':X.env.scope.names.lookup y=some .local:=k0;rw[z] at k0';cases k0'
     ·have k0':X.env.scope.names.lookup y=some .local:=k0;rw[z] at k0';cases k0'
    ·rw[hc0] at e0;cases e0;obtain⟨o,ho,hd⟩:=q0;exact⟨o,old _ _ ho,hd⟩
 cell:=fun y c e=>by
  rcases S.cases I.ok e with ⟨_,b1⟩|⟨_,b1⟩
  ·rw[b1];exact⟨_,hcl⟩
  ·obtain⟨v,o,ho,hd⟩:=I.cell y c b1;exact⟨v,o,old _ _ ho,hd⟩
 free:=I.hok.fresh hC
 freeC:=fun y c e=>by
  rcases S.cases I.ok e with ⟨_,b1⟩|⟨_,b1⟩
  ·rw[b1];exact I.hok.fresh (Nat.le_succ_of_le hC)
  ·exact I.freeC y c b1
 pin:=fun p hp=>by cases hp
 hok:=I.hok.kept old
 len:=by simp[Cx.compN,I.len,hlen]
end
section
variable {X:Cx}{M:List Str}{scope:Scope}{x x2:Str}{px px2 ptg pos:Pos}{tk:Nat}{elt iter:Expr}{ifs:List Expr}{wi:TI}{tt:TT}{te:TE}
theorem comp_coreN {use:Option (Value->Sem Unit)}{QQ:Value->Shared->Prop}{Q:VK}{pins:List (Addr×Obj)}{σ:St}{H:Hp}{cpos:Pos}(hsc:X.env.scope=sc)(S:a3z sc x x2 scope)(hx:x∉M)(hx2:x2∉M)(hxx:x≠x2)(h0:(".0":Str)∉M)(hN:M.Nodup)(hlen:M.length=X.N.length)(hM:∀(j:Nat) y,M[j]? = some y->X.N[j]? = some y\/scope.names.lookup y=none)(hc:X.calm=true)(hi:PI X (.Tuple [.Name x px,.Name x2 px2] tk ptg) iter wi)
  (ht:∀C s H ex,PIfs (X.compN M scope x x2 C s H ex) ifs tt) (he:∀C s H ex,PE (X.compN M scope x x2 C s H ex) elt te) (I:Inv X pins σ H s) (h:tComp2 X.K wi tt te σ H Q)
  (fin:∀(D C:Addr) (s4:Shared) (H4:Hp),C≠X.env.locals->(∀y c,X.env.cells.lookup y=some c->c≠C)->(∀p∈X.pn++pins,p.1≠C)->X.s₀.heap.objs.size<=C->H4 C=none->(∃m,s4.heap.Ns C m)->
   (∀h',A5h C s4.heap h'->Inv X pins σ H4 { s4 with heap:=h' })->Q (.ref D) H4->compPost (model X.prog X.w) X.A X.xe use QQ (.ref D) C (.ok .next) s4)
  (hs:∀v,foldedSetIterable iter X.env v=pure v) :
  wpAny (model X.prog X.w) X.A (comprehension (.ListComp elt [⟨.Tuple [.Name x px,.Name x2 px2] tk ptg,iter,ifs,0⟩] scope pos) scope X.env cpos (newList []) false (eval iter X.env) use) QQ X.xe s:=by
 subst hsc;have hnames:=S.nam;refine wpAny_comprehension_free (use:=use) rfl hs (d2a (S.has I.ok)) S.kind hnames (thn (hi pins s σ H _ I h) fun v s1 h1=>thn h1 fun itv s2 h2=>?_);obtain⟨it,fp,tn,J,H2,e,I2,T,st2,f2,W,⟨m0,w0⟩,turn⟩:=h2;subst e;refine A5f (d5q S.lay (fun h₁ hns₁ hcl₁ hsb₁=>?_));dsimp only at hns₁ hcl₁ hsb₁ ⊢;generalize hG:s2.heap.push { cls:=.type "list",dict:=none,data:=.seq ([]:List Value).toArray }=G at hns₁ hcl₁ hsb₁ ⊢;have hC:G.objs.size=s2.heap.objs.size+1:=by rw[<- hG,A4p]
 have hDC:s2.heap.objs.size≠G.objs.size:=by omega
 have below:∀b,b<s2.heap.objs.size->b≠G.objs.size/\b≠s2.heap.objs.size:=fun b hb=>⟨by omega,by omega⟩;have old:∀b o,s2.heap.get? b=some o->h₁.get? b=some o:=fun b o e=>hsb₁ b o (hG▸Heap.get?_push_of_some _ e);have hacc:h₁.get? s2.heap.objs.size=some { cls:=.type "list",data:=.seq ([]:List Value).toArray }:=hsb₁ _ _ (hG▸Heap.get?_push_size _ rfl)
 have hlt:∀b∈fp,b<s2.heap.objs.size:=fun b hb=>by
  obtain⟨o,e,_⟩:=T.obj _ _ st2 b hb;exact A0y e
 have ctop:∀y c,((x2,G.objs.size+1)::d4y X.env scope.names []).lookup y=some c->c≠s2.heap.objs.size:=fun y c e=>by
  rcases S.cases I2.ok e with ⟨_,b1⟩|⟨_,b1⟩
  ·rw[b1];omega
  ·obtain⟨v,q⟩:=I2.cell y c b1;exact A2r q.lt
 have hCle:s2.heap.objs.size<=G.objs.size:=by omega
 have IY:∀t1,Inv (X.compN M scope x x2 G.objs.size s2 H2 fp) [] (none::none::σ) H2 { s2 with heap:=h₁,toks:=t1 }:=fun t1=>S.inv hx hx2 hxx h0 hlen hM I2 hCle f2 hlt old hns₁ hcl₁
 have nost:∀b,s2.heap.objs.size<=b->b∉frs X.stack:=fun b hb z=>by
  rcases List.mem_cons.mp (I2.stkSub b z) with q|q
  ·exact Nat.not_le.mpr I2.lt (q▸hb)
  ·exact I2.nofs hb q
 have hD:s2.heap.objs.size∉frs X.stack:=nost _ (A0k _)
 have ptop:∀{pl:List (Addr×Obj)} {H':Hp},(∀b∈fp,H' b=none)->(∀p∈pl,p.1∉fp)->∀b∈fp,FpOk (X.compN M scope x x2 G.objs.size s2 H2 fp) pl H' b:=fun {pl H'} hn hp b hb=>
  ⟨hn b hb,fun z=>(below b (hlt b hb)).1 z,fun z=>(S.ok (M:=M) I2 hCle f2 hlt).exfs b hb z,.inl hb,fun y c e=>(S.ok (M:=M) I2 hCle f2 hlt).exf b hb |>.2 y c e,fun p hp' z=>hp p hp' (z▸hb)⟩
 have Dfp:s2.heap.objs.size∉fp:=fun z=>A2z _ (hlt _ z)
 have loop:∀t1,codeAny (model X.prog X.w) X.A (.compLoop (.ListComp elt [⟨.Tuple [.Name x px,.Name x2 px2] tk ptg,iter,ifs,0⟩] scope pos) 0 (.ref it) (.ref s2.heap.objs.size) (compEnvC scope ((x2,G.objs.size+1)::d4y X.env scope.names []) G.objs.size X.env))
   (compPost (model X.prog X.w) X.A X.xe use QQ (.ref s2.heap.objs.size) G.objs.size) { s2 with heap:=h₁,toks:=t1 }:=by
  intro t1
  refine c3r (fun n s'=>∃i o o2 H' ys its k,Inv (X.compN M scope x x2 G.objs.size s2 H2 fp) [(s2.heap.objs.size,{ cls:=.type "list",data:=.seq its k })] (o::o2::σ) H' s'/\tn i s'.heap/\(∀b∈fp,H' b=none)/\a5q ys its.toList/\ys.length<=sizeLine/\W i n ys H')
   ?_ m0 ⟨0,none,none,H2,[],#[],0,?_,T.keep _ _ _ st2 fun b _ o e=>old b o e,fun b hb=>(f2 b hb).1,.nil,A1v _,w0⟩
  ·rintro n s3 ⟨i,o,o2,H3,ys,its,k,I3,st3,fr3,vs3,z3,w3⟩
   have pD:∀p∈[(s2.heap.objs.size,({ cls:=.type "list",data:=.seq its k }:Obj))],p.1∉fp:=fun p hp=>by
    have e:p=_:=List.mem_singleton.mp hp;subst e;exact Dfp
   rcases turn i n ys H3 w3 with ⟨stop,qn⟩|⟨go,hz,N,hN',step⟩
   ·refine A2u (T.done (X.compN M scope x x2 G.objs.size s2 H2 fp) rfl rfl rfl hc i _ s3 (o::o2::σ) H3 (fun _ _=>False) I3 (ptop fr3 pD) st3 stop) (fun r s4 ⟨hr,I4⟩=>?_) fun _ _ f=>f;subst hr;obtain⟨m4,hn4,_⟩:=I4.loc;obtain⟨eD,nD,_⟩:=I4.pin _ (List.mem_singleton.mpr rfl);have nC:H3 G.objs.size=none:=I4.free;refine fin s2.heap.objs.size G.objs.size s4 (upd H3 s2.heap.objs.size (.lst ys)) (fun z=>Nat.not_le.mpr I2.lt (z▸hCle)) (fun y c e z=>?_) (fun p hp z=>?_) (A1z I2.sz hCle) (by rw[a0w (A4m hDC)];exact nC) ⟨m4,hn4⟩ (fun h' hs'=>?_) (qn _ nD)
    ·obtain⟨v,q⟩:=I2.cell y c e;exact Nat.not_le.mpr q.lt (z▸hCle)
    ·exact Nat.not_le.mpr (A0y (I2.pin p hp).1) (z▸hCle)
    have eD':h'.get? s2.heap.objs.size=some { cls:=.type "list",data:=.seq its k }:=hs'.extBut _ _ hDC eD;have stp:∀b o,s2.heap.get? b=some o->b≠G.objs.size/\b≠s2.heap.objs.size:=fun b o e=>below b (A0y e)
    have un:Un (frs X.stack) fp H2 (upd H3 s2.heap.objs.size (.lst ys)) s2.heap h':=by
     have B:=I4.base;refine⟨fun b o e n1 n2 n3=>hs'.extBut _ _ (stp b o e).1 (B.keep b o e n1 n2 n3),fun b o e n1 n2 n3=>?_,fun b o e n1 n3=>?_,fun b o e n3=>?_,fun b xs e=>?_,fun b o u e=>?_,fun b ps e=>?_⟩
     ·obtain⟨sl,q⟩:=B.slot b o e n1 n2 n3;exact⟨sl,hs'.extBut _ _ (stp b o e).1 q⟩
     ·rw[a0w (stp b o e).2];exact B.free b o e n1 n3
     ·obtain⟨o',q⟩:=B.there b o e n3;exact⟨o',hs'.extBut _ _ (stp b o e).1 q⟩
     ·have q:=B.tups b xs e;rw[a0w (a0j q nD)];exact q
     ·have q:=B.frzs b o u e;rw[a0w (a0j q nD)];exact q
     ·obtain⟨more,q⟩:=B.tbls b ps e;exact⟨more,by rw[a0w (a0j q nD)];exact q⟩
    have hok:HOk X.prog X.w (upd H3 s2.heap.objs.size (.lst ys)) h':=fun b u e=>by
     by_cases hb:b=s2.heap.objs.size
     ·subst hb;rw[a0d] at e;cases e;exact⟨z3,its.toList,k,vs3,by simpa using eD'⟩
     ·rw[a0w hb] at e;refine(I4.hok b u e).stay (fun c v hc' q=>hs'.extBut _ _ (fun z=>?_) q) (fun c q=>by rw[a0w (a0j q nD)];exact q) fun c xs q=>by rw[a0w (a0j q nD)];exact q
      rcases hc' with r|r
      ·rw[r] at z;rw[z,nC] at e;cases e
      ·rw[z,nC] at r;cases r
    refine I2.call' (s':={ s4 with heap:=h' }) I4.os un hok I4.bare (fun b hb=>?_);obtain⟨f0,f1,f2',f3,f4,f5⟩:=f2 b hb;exact⟨f3,f1,f4,f5⟩
   ·refine A2u (T.item (X.compN M scope x x2 G.objs.size s2 H2 fp) rfl rfl rfl hc i _ s3 (o::o2::σ) H3 (fun _ _=>False) I3 (ptop fr3 pD) st3 go) (fun r s4 ⟨u,hr,h4⟩=>?_) fun _ _ f=>f;subst hr;refine A2u h4 (fun _ s5 ⟨v5,H5,I5,r5,y5,st5,fr5⟩=>?_) fun _ _ f=>f;have I5':=I5.pinned (ptop fr5 pD) (T.obj _ _ st5);have hnd:(X.compN M scope x x2 G.objs.size s2 H2 fp).N.Nodup:=List.nodup_cons.mpr ⟨fun z=>(List.mem_cons.mp z).elim hxx hx,List.nodup_cons.mpr ⟨hx2,hN⟩⟩;have hloc:(relabel scope X.env).names.lookup x=some .local:=lookup_relabel_local S.own;have hloc2:(relabel scope X.env).names.lookup x2=some .cell:=S.rl2;obtain⟨a5,v5a,v5b,e5,sq5,q5⟩:=step v5 H5 y5;subst e5;refine A2u (b8n (X:=X.compN M scope x x2 G.objs.size s2 H2 fp) (pos:=ptg) (k:=tk) hc (a2b (a1g (X:=X.compN M scope x x2 G.objs.size s2 H2 fp) (i:=0) (pos:=px) hnd rfl (.inl hloc) (.inr hloc)) (a2b (a1g (X:=X.compN M scope x x2 G.objs.size s2 H2 fp) (i:=1) (pos:=px2) hnd rfl (.inr hloc2) (.inl (beq_self_eq_true x2))) b2m)) rfl rfl _ s5 (o::o2::σ) H5 (.ref a5) u (fun σ6 H6=>σ6=some v5a::some v5b::σ/\H6=H5) I5' r5 ⟨a5,[v5a,v5b],rfl,sq5,rfl,v5a,[v5b],rfl,v5b,[],rfl,rfl,rfl,rfl⟩) (fun _ s6 ⟨σ6,H6,I6,e6,e6'⟩=>?_) fun _ _ f=>f;subst e6 e6'
    have later:∀{σ7:St} {H7:Hp} {s7:Shared},Inv (X.compN M scope x x2 G.objs.size s2 H2 fp) ([(s2.heap.objs.size,{ cls:=.type "list",data:=.seq its k })]++d2k fp s5.heap) σ7 H7 s7->tn (i+1) s7.heap/\(∀b∈fp,H7 b=none):=fun {σ7 H7 s7} I7=>
     ⟨T.keep _ _ _ st5 fun b hb o e=>(I7.pin (b,o) (A0v _ (A0v _ (b0e hb e)))).1,fun b hb=>by
      obtain⟨o,e,d⟩:=T.obj _ _ st5 b hb
      exact(I7.pin (b,o) (A0v _ (A0v _ (b0e hb e)))).2.1⟩
    refine A2u (ht _ _ _ _ _ s6 (some v5a::some v5b::σ) H6 _ I6 q5) (fun ok s7 ⟨H7,I7,q7⟩=>?_) fun _ _ f=>f
    cases ok with
    | false=>
     obtain⟨m',hm,w7⟩:=hN' _ _ q7;exact⟨m',hm,i+1,some v5a,some v5b,H7,ys,its,k,I7.unpinned,(later I7).1,(later I7).2,vs3,z3,w7⟩
    | true=>
     refine A2u (he _ _ _ _ _ s7 (some v5a::some v5b::σ) H7 _ I7 q7) (fun uy s8 ⟨y8,H8,I8,r8,q8⟩=>?_) fun _ _ f=>f;obtain⟨m',hm,w8⟩:=hN' _ _ q8;obtain⟨eD,nD,_⟩:=I8.pin (s2.heap.objs.size,{ cls:=.type "list",data:=.seq its k }) (A0v _ (A2g _ (List.mem_singleton.mpr rfl)))
     have hsz:its.size<=sizeLine:=by
      have:=vs3.length;have e2:its.toList.length=its.size:=by simp
      omega
     refine wpAny_list_append_plain (hsz:=hsz) ⟨k,eD⟩ fun h9 pl9 sb9=>?_;obtain⟨k9,e9⟩:=pl9;obtain⟨st8,fr8⟩:=later I8;have I8':Inv (X.compN M scope x x2 G.objs.size s2 H2 fp) [] (some v5a::some v5b::σ) H8 s8:=I8.pins_of fun p hp=>nomatch hp
     have I9:Inv (X.compN M scope x x2 G.objs.size s2 H2 fp) [] (some v5a::some v5b::σ) H8 { s8 with heap:=h9 }:=
      I8'.turned (t':=s8.toks) (fun b o hb e=>sb9.extBut b o hb e) nD hDC (.inr (A0k _)) (fun y c e z=>ctop y c e z) fun p hp=>nomatch hp
     refine⟨m',hm,i+1,some v5a,some v5b,H8,ys++[y8],its.push uy,k9,I9.pins_of fun p hp=>?_,T.keep _ _ _ st8 fun b hb o e=>sb9.extBut b o (fun z=>Dfp (z▸hb)) e,fr8,?_,?_,w8⟩
     ·have e:p=_:=List.mem_singleton.mp hp;subst e;exact⟨e9,nD,hDC,hD,fun v z=>by cases z⟩
     ·rw[Array.toList_push];exact vs3.append (.cons r8 .nil)
     ·rw[A0j,A3e];omega
  ·refine(IY t1).pins_of fun p hp=>?_;have e:p=_:=List.mem_singleton.mp hp;subst e;exact⟨hacc,I2.hok.fresh (A0k _),hDC,hD,fun v z=>by cases z⟩
 exact codeAny_compStart_list (loop _) (T.self _ 0 _ _ _ (T.keep _ _ _ st2 fun b _ o e=>old b o e) (loop _))
theorem pe_compN (hsc:X.env.scope=sc)(S:a3z sc x x2 scope)(hx:x∉X.N)(hx2:x2∉X.N)(hxx:x≠x2)(h0:(".0":Str)∉X.N)(hN:X.N.Nodup)(hc:X.calm=true)(hi:PI X (.Tuple [.Name x px,.Name x2 px2] tk ptg) iter wi)
  (ht:∀C s H ex,PIfs (X.compN X.N scope x x2 C s H ex) ifs tt) (he:∀C s H ex,PE (X.compN X.N scope x x2 C s H ex) elt te) (hs:∀v,foldedSetIterable iter X.env v=pure v:=by intro _;rfl) :
  PE X (.ListComp elt [⟨.Tuple [.Name x px,.Name x2 px2] tk ptg,iter,ifs,0⟩] scope pos) (tComp2 X.K wi tt te):=by
 intro pins s σ H Q I h;rw[eval_ListComp];exact comp_coreN (use:=none) (M:=X.N) hsc S hx hx2 hxx h0 hN rfl (fun _ _ e=>.inl e) hc hi ht he I h (fun D C s4 H4 _ _ _ _ _ hn inv q=>let ⟨m,hn⟩:=hn;⟨m,hn,fun h' hs'=>⟨.ref D,H4,inv h' hs',rfl,q⟩⟩) hs
end
end L2
namespace Tw
open PySem L2
def scopeIn:Nat->Expr->Scope
 | 0,_=>{ kind:=.function,names:=[],isGenerator:=false,isCoroutine:=false }
 | k+1,e=>match e with
  | .ListComp _ _ sc _=>sc
  | .Call _ (a::_) _ _=>scopeIn k a
  | _=>{ kind:=.function,names:=[],isGenerator:=false,isCoroutine:=false }
def bodyScope (s:Stmt):Scope:=match s with
 | .FunctionDef _ _ (.Return (some e) _::_) _ _ _ _ _ _ _=>scopeIn 3 e
 | _=>{ kind:=.function,names:=[],isGenerator:=false,isCoroutine:=false }
def relS (scope sc:Scope):Scope:={ scope with names:=scope.names.map fun (n,k)=>if (k==.free&&sc.kind==.function&&sc.names.lookup n==some .cell)=true then (n,.cell) else (n,k) }
end Tw
namespace L2
open PySem PySem.Spec PyProof.Rows
variable {K:A0a}{a b:Addr}{X:Cx}{H:Hp}{is js:List Int}{Q:VK}
theorem sl_listK (h:X.K=K):SlR X (rSlL K):=h▸c3m
theorem pi_listK {tg l:Expr}{tl:TE}(h:X.K=K)(hl:PE X l tl):PI X tg l (iList K tl):=h▸a1q hl
theorem call_allBK (h:X.K=K)(hc:X.calm=true):b2z X (.builtin "all") (rAll K):=h▸a7p hc
section
variable {X:Cx}{scope:Scope}{x:Str}{px pos:Pos}{elt iter:Expr}{ifs:List Expr}{wi:TI}{tt:TT}{te:TE}
end
theorem ps_tryQ {st:Stmt}{t:XK->TS}{h₀:ExceptHandler}{hs:List ExceptHandler}{pos:Pos}(hb:PSx X st t):PS X (.Try [st] (h₀::hs) [] [] pos) (t fun _ _ _=>False):=by
 intro pins s σ H D I h;refine wpAny_Try_except (B0d (A2u (hb pins s σ H D _ I h) (fun f s1 q=>?_) fun e s1 q=>?_))
 ·cases f with
  | next=>exact A5w (A5w q)
  | ret v=>exact q
  | brk=>exact q
  | cont=>exact q
 ·obtain⟨H1,s2,I2,ea,cls,H',B,rfl,F⟩:=q;exact F.want.elim
section
variable {X:Cx}
end
section
variable {X:Cx}{e:Expr}{lo hi:Option Expr}{st:Expr}{te ts:TE}{tl th:TO}{p2 pos:Pos}
end
section
variable {K:A0a}{a:Addr}{xs:List V}{ta:TA}{tt:TT}{te:TE}{Q:VK}{σ:St}{H:Hp}
theorem st_cpEn (e:∀P:List V->Hp->Prop,P [.ref a] H->ta σ H P)(s:SqL K H a xs)(Pv:Nat->List V->Hp->Prop)(hn:xs.length<=1000)(h0:Pv 0 [] H)(hl:∀i ys H,Pv i ys H->ys.length<=i)(hk:∀i ys H,Pv i ys H->SqL K H a xs)
  (hs:∀i x ys H p,xs[i]? = some x->Pv i ys H->H p=none->tt (some (.int (i:Int))::some x::σ) (upd H p (.tup [.int (i:Int),x])) fun b H2=>if b=true then te (some (.int (i:Int))::some x::σ) H2 fun y H3=>Pv (i+1) (ys++[y]) H3 else Pv (i+1) ys H2)
  (hd:∀ys H,Pv xs.length ys H->∀p,H p=none->Q (.ref p) (upd H p (.lst ys))):tComp2 K (iEnumL K ta) tt te σ H Q:=by
 refine e _ ⟨a,xs,rfl,s,fun i m ys H=>m=xs.length-i/\i<=xs.length/\Pv i ys H,⟨xs.length,by simp,A1v _,h0⟩,?_⟩;rintro i m ys H ⟨rfl,hi,p⟩;have q:=hk i ys H p
 by_cases hlt:i<xs.length
 ·refine .inr ⟨⟨xs,xs[i],q,rfl,by simp[hlt]⟩,a3n (by have:=hl i ys H p;omega),Pv (i+1),fun ys' H' p'=>⟨xs.length-(i+1),by omega,rfl,hlt,p'⟩,fun x H' y=>?_⟩;obtain⟨T,v,hT,rfl,hv,rfl⟩:=y;exact⟨T,_,_,rfl,SqT.of a0d,hs i v ys H T (hv xs q) p hT⟩
 ·have e:i=xs.length:=by omega
  subst e;exact .inl ⟨⟨xs,q,rfl,A0k _⟩,hd ys H p⟩
end
theorem d4h (ha:SqL K H a (is.map V.int))(hb:SqL K H b (js.map V.int))(q:Q (.bl (!decide (is=js))) H):rNeD K (.ref a) (.ref b) H Q:=
 ⟨_,_,.lst ha (c2j is),.lst hb (c2j js),A5s is,A5s js,by rw[A4v,d4n];exact q⟩
theorem rEqD_il (ha:SqL K H a (is.map V.int))(hb:SqL K H b (js.map V.int))(q:Q (.bl (decide (is=js))) H):rEqD K (.ref a) (.ref b) H Q:=
 ⟨_,_,.lst ha (c2j is),.lst hb (c2j js),A5s is,A5s js,by rw[A4v,d4n];exact q⟩
end L2
namespace Tw
open PySem PySem.Spec L2
section
variable {K:A0a}{H:Hp}{Q:VK}{a b:Addr}{as bs:List Addr}{xs ys:List (List V)}
end
end Tw
namespace L2
open PySem PySem.Spec PyProof.Rows
variable {H:Hp}{xs:List (List Key×Addr×Value)}{kvs:List (List Key×V)}{P:Program}{y:V}{u:Value}{w:World}
section
variable {prog:Program}{w:World}{A:Around}{E:Value->Shared->Prop}{s:Shared}
end
section
variable {X:Cx}{o i value:Expr}{td ty tv:TE}{pos pos':Pos}
theorem pe_bm0K {K:A0a}{T:String}{id:String}{name:Str}{r:V->List V->Hp->VK->Prop}{o:Expr}{to:TE}{apos cpos:Pos}(hK:X.K=K)(pa:PlainAttrs T)(slot:Slot T name id)(hty:typeOf (.builtin id)=pure (.type "method_descriptor"))(hm:MtR X id r)(ho:PE X o to)
  (hbase:attributeBase o name X.env (eval o X.env)=eval o X.env:=by rfl) (hline:(apos.endLine==cpos.line)=true:=by rfl):PE X (.Call (.Attribute o name apos) [] [] cpos) (tBM0 K T r to):=hK▸pe_bm0 pa slot hty hm ho hbase hline
end
section
variable {κ:Type} [DecidableEq κ]
def c5d (kvs:List (κ×V))(k:κ):Option V:=(kvs.find? fun kv=>decide (kv.1=k)).map (·.2)
def putK (kvs:List (κ×V))(k:κ)(v:V):List (κ×V):=
 if (kvs.any fun kv=>decide (kv.1=k))=true then kvs.map (fun kv=>if kv.1=k then (kv.1,v) else kv) else kvs++[(k,v)]
theorem a8k {p:κ×V}{r:List (κ×V)}{k:κ}(e:p.1=k):c5d (p::r) k=some p.2:=by simp[c5d,List.find?_cons,e]
theorem a8n {p:κ×V}{r:List (κ×V)}{k:κ}(e:¬p.1=k):c5d (p::r) k=c5d r k:=by simp[c5d,List.find?_cons,e]
theorem c6b (k:κ):∀kvs:List (κ×V),(kvs.any fun kv=>decide (kv.1=k))=(c5d kvs k).isSome
 | []=>rfl
 | p::r=>by
  rw[B1n]
  by_cases e:p.1=k
  ·simp only[a8k e,decide_eq_true e,Bool.true_or,B1r]
  ·rw[a8n e,decide_eq_false e,Bool.false_or];exact c6b k r
theorem valV_map (k j:κ)(y:V):∀kvs:List (κ×V),c5d (kvs.map fun kv=>if kv.1=k then (kv.1,y) else kv) j=(c5d kvs j).map fun x=>if j=k then y else x
 | []=>rfl
 | p::r=>by
  have ih:=valV_map k j y r;rw[A2a]
  by_cases h:p.1=k
  ·rw[if_pos h]
   by_cases e:p.1=j
   ·rw[a8k (p:=(p.1,y)) e,a8k e,A2k,if_pos (e.symm.trans h)]
   ·rw[a8n (p:=(p.1,y)) e,a8n e,ih]
  ·rw[if_neg h]
   by_cases e:p.1=j
   ·rw[a8k (p:=p) e,a8k e,A2k,if_neg (fun z=>h (e.trans z))]
   ·rw[a8n (p:=p) e,a8n e,ih]
theorem valV_snoc (k j:κ)(y:V):∀kvs:List (κ×V),c5d kvs k=none->c5d (kvs++[(k,y)]) j=if j=k then some y else c5d kvs j
 | [],_=>by
  by_cases e:k=j
  ·rw[if_pos e.symm];exact a8k (p:=(k,y)) e
  ·rw[if_neg (fun z=>e z.symm)];exact a8n (p:=(k,y)) e
 | p::r,hn=>by
  rw[A8c];have hk:¬p.1=k:=fun z=>by rw[a8k z] at hn;cases hn
  rw[a8n hk] at hn;have ih:=valV_snoc k j y r hn
  by_cases e:p.1=j
  ·rw[a8k e,a8k e,if_neg (fun z=>hk (e.trans z))]
  ·rw[a8n e,a8n e,ih]
theorem valV_put (kvs:List (κ×V))(k j:κ)(y:V):c5d (putK kvs k y) j=if j=k then some y else c5d kvs j:=by
 unfold putK
 by_cases a:(kvs.any fun kv=>decide (kv.1=k))=true
 ·rw[if_pos a,valV_map];rw[c6b] at a
  by_cases e:j=k
  ·obtain⟨x,hx⟩:=Option.isSome_iff_exists.mp a;rw[if_pos e,e,hx,A2k,if_pos rfl]
  ·rw[if_neg e]
   cases c5d kvs j with
   | none=>rfl
   | some x=>rw[A2k,if_neg e]
 ·rw[if_neg a];refine valV_snoc k j y kvs ?_;rw[c6b] at a
  cases q:c5d kvs k with
  | none=>rfl
  | some x=>rw[q] at a;exact(a rfl).elim
theorem c7w (kvs:List (κ×V))(k:κ)(v:V):(putK kvs k v).length<=kvs.length+1:=by
 unfold putK
 split
 ·rw[A0b];omega
 ·rw[A0j,A1c,A8r];omega
theorem RelO.isSome_eq {o:Option V}{u:Option Value}(r:RelO o u):o.isSome=u.isSome:=by
 cases o with
 | none=>cases u with
  | none=>rfl
  | some _=>exact(show False from r).elim
 | some _=>cases u with
  | none=>exact(show False from r).elim
  | some _=>rfl
end
theorem kV_is {k:Key}(r:a8e (kV k) u):(a2m P w).is k u=true:=by
 cases k with
 | inl i=>obtain⟨t,e⟩:=(show ∃t,u=A7b i t from r);subst e;exact mixKind_int P w i t
 | inr x=>obtain⟨t,e⟩:=(show ∃t,u=B1h x t from r);subst e;exact mixKind_str P w x t
theorem items_are {P:Program}{w:World}:∀{ks:List Key} {us:List Value},a5q (ks.map kV) us->ItemsAre (a2m P w) ks us
 | [],_,r=>by rw[A9b] at r;cases r;exact .nil
 | k::ks,_,r=>by
  rw[A2a] at r
  cases r with
  | cons h t=>exact .cons (kV_is h) (items_are t)
abbrev KT (H:Hp):List (List Key×V)->List (List Key×Addr×Value)->Prop:=Paired fun p q=>p.1=q.1/\H q.2.1=some (.tup (p.1.map kV))/\a8e p.2 q.2.2
theorem KT.val (r:KT H kvs xs)(k:List Key):RelO (c5d kvs k) ((atKey xs k).map (·.2)):=by
 induction r with
 | nil=>exact A6w
 | @cons p q ps qs h t ih=>
  obtain⟨h1,_,h2⟩:=h
  by_cases e:p.1=k
  ·have e':q.1=k:=h1.symm.trans e;have b:atKey (q::qs) k=some q.2:=by simp[atKey,List.find?_cons,e']
   rw[a8k e,b];exact h2
  ·have e':¬q.1=k:=fun z=>e (h1.trans z);have b:atKey (q::qs) k=atKey qs k:=by simp[atKey,List.find?_cons,e']
   rw[a8n e,b];exact ih
theorem KT.repl (r:KT H kvs xs)(k:List Key)(ry:a8e y u) :
  KT H (kvs.map fun kv=>if kv.1=k then (kv.1,y) else kv) (xs.map (putAt k u)):=by
 induction r with
 | nil=>exact .nil
 | @cons p q ps qs h t ih=>
  rw[A2a,A2a];refine .cons ?_ ih;obtain⟨h1,h2,h3⟩:=h;unfold putAt
  by_cases e:p.1=k
  ·rw[if_pos e,if_pos (h1.symm.trans e)];exact⟨h1,h2,ry⟩
  ·rw[if_neg e,if_neg (fun z=>e (h1.trans z))];exact⟨h1,h2,h3⟩
theorem KT.put (r:KT H kvs xs)(k:List Key){b:Addr}(hb:H b=some (.tup (k.map kV)))(ry:a8e y u) :
  KT H (putK kvs k y) (storedH xs k b u):=by
 have e:(kvs.any fun kv=>decide (kv.1=k))=(atKey xs k).isSome:=by
  rw[c6b,(r.val k).isSome_eq,Option.isSome_map]
 unfold putK storedH;rw[e]
 by_cases q:(atKey xs k).isSome=true
 ·rw[if_pos q,if_pos q];exact r.repl k ry
 ·rw[if_neg q,if_neg q];exact Paired.snoc r ⟨rfl,hb,ry⟩
theorem KT.keeps {H':Hp}(r:KT H kvs xs)(ht:∀b ys,H b=some (.tup ys)->H' b=some (.tup ys)):KT H' kvs xs:=
 Paired.mapP r fun _ _ z=>⟨z.1,ht _ _ z.2.1,z.2.2⟩
section
variable {P:Program}{w:World}{H:Hp}{h:Heap}{a:Addr}
theorem rd_of {u:HO}(ok:HOk P w H h)(e:Rd H a u):a8s P w H h a u:=e.ok ok
theorem dk_rd {kvs:List (Key×V)}(ok:HOk P w H h)(e:Rd H a (.dK kvs)):kvs.length<=sizeLine/\(a==sysModules)=false/\∃vs,KV kvs vs/\h.DictOf (a2m P w) a vs:=
 show a8s P w H h a (.dK kvs) from rd_of ok e
theorem key_of {ks:List Key}(ok:HOk P w H h)(e:H a=some (.tup (ks.map kV))):(tupleKind (a2m P w)).is h ks a:=by
 obtain⟨_,its,r,o,h1,h2,n,h3⟩:=(show a8s P w H h a (.tup (ks.map kV)) from ok a _ e);exact⟨o,its.toArray,n,h1,h2,h3,by simpa using items_are r⟩
theorem dt_rd (ok:HOk P w H h)(e:Rd H a (.dT kvs)):kvs.length<=sizeLine/\(a==sysModules)=false/\
  ∃xs,KT H kvs xs/\h.DictOfH (tupleKind (a2m P w)) a xs:=by
 obtain⟨z,y,xs,r,o,es,ep,h1,h2,h3,h4,h5⟩:=(show a8s P w H h a (.dT kvs) from rd_of ok e);refine⟨z,y,xs,r,o,es,ep,h1,h2,h3,h4,fun x hx=>?_,h5⟩
 have all:∀{l:List (List Key×V)} {m:List (List Key×Addr×Value)},KT H l m->∀x∈m,(tupleKind (a2m P w)).is h x.1 x.2.1:=by
  intro l m q
  induction q with
  | nil=>intro x hx;exact nomatch hx
  | @cons p q ps qs hq t ih=>
   intro x hx
   rcases List.mem_cons.mp hx with e|hx
   ·subst e;exact key_of ok (by rw[<- hq.1];exact hq.2.1)
   ·exact ih x hx
 exact all r x hx
theorem dt_of (ok:HOk P w H h)(e:H a=some (.dT kvs)):kvs.length<=sizeLine/\(a==sysModules)=false/\
  ∃xs,KT H kvs xs/\h.DictOfH (tupleKind (a2m P w)) a xs:=dt_rd ok (.inl e)
end
section
variable {X:Cx}{pins:List (Addr×Obj)}{σ:St}{H:Hp}{s:Shared}{a:Addr}{y v:V}{u r:Value}{o:Option V}{A:Around}{E:Value->Shared->Prop}
theorem Inv.big (I:Inv X pins σ H s):sysModules<s.heap.objs.size:=by
 have h:mainGlobals<s.heap.objs.size:=(I.mod.glob.keeps I.bk).lt;exact Nat.lt_trans (by decide) h
theorem d_write {h':Heap}{t':Nat}{ob:HO}(I:Inv X pins σ H s)(mu:Mut (H a))(hs:A5h a s.heap h')(he:∃q,h'.get? a=some q)(new:a8s X.prog X.w (upd H a ob) h' a ob) :
  Inv X pins σ (upd H a ob) { s with heap:=h',toks:=t' }:=
 I.write (x:=a) (e:=a) mu (.inl rfl) (fun b q hb z=>(hs.2 b hb).trans z) he new
end
section
variable {X:Cx}{pins:List (Addr×Obj)}{σ:St}{H:Hp}{s:Shared}{a:Addr}{kvs:List (Key×V)}{k:Key}{u:Value}{A:Around}{E:Value->Shared->Prop}
end
section
variable {X:Cx}{o i e value:Expr}{pos pos' tpos:Pos}{td ty tv:TE}
end
theorem dt_empty (h:Heap)(hb:sysModules<h.objs.size):a8s P w H (h.push { cls:=.type "dict",data:=.dict #[] }) h.objs.size (.dT []):=
 ⟨A1v _,beq_eq_false_iff_ne.mpr (A4m (A2r hb)),[],.nil,_,#[],0,Heap.get?_push_size _ rfl,⟨rfl,rfl,rfl⟩,rfl,rfl,List.nodup_nil⟩
def tDNewT:TE:=fun _ H Q=>∀p,H p=none->Q (.ref p) (upd H p (.dT []))
section
variable {X:Cx}{pos:Pos}
theorem pe_dnewT:PE X (.Dict [] [] pos) tDNewT:=fun pins s σ H Q I h=>
 wpAny_Dict_empty ⟨.ref s.heap.objs.size,_,I.laid (a:=s.heap.objs.size) (o:=.dT []) (t':=s.toks) (fun _ _ q=>Heap.get?_push_of_some _ q) (A0k _) (dt_empty s.heap I.big),rfl,h _ (I.hok.fresh (A0k _))⟩
end
structure M2 (X:Cx)(o:Expr)(m:Str)(apos:Pos)(e f:Expr)(cpos:Pos):Prop where
 base:attributeBase o m X.env (eval o X.env)=eval o X.env
 few:((backTo cpos (starEach [e,f] X.env)).all (fun x=>!x.1)&&(backToKw cpos (keywordEach [] X.env)).all (fun x=>x.1.isSome)
  && decide (([e,f]:List Expr).length+([]:List Keyword).length+(if ([]:List Keyword).isEmpty then 0 else 1)<30))=true
 line:(apos.endLine==cpos.line)=true
 trees:backTo cpos (starEach [e,f] X.env)=[(false,eval e X.env),(false,eval f X.env)]
def IsD (H:Hp)(a:Addr):Prop:=(∃kvs,Rd H a (.dK kvs))\/∃kvs,Rd H a (.dT kvs)
theorem isD_at {X:Cx}{pins:List (Addr×Obj)}{σ:St}{s:Shared}{a:Addr}(I:Inv X pins σ H s)(d:IsD H a) :
  s.TypeIs (.ref a) "dict"/\(∀b,A3b a=.ref b->∃ob,s.heap.get? b=some ob/\ob.dict=none)/\(a==sysModules)=false:=by
 rcases d with ⟨kvs,e⟩|⟨kvs,e⟩
 ·obtain⟨_,hd,vs,_,dd⟩:=dk_rd I.hok e;refine⟨dd.typeIs,fun b q=>?_,hd⟩;cases q;obtain⟨ob,_,_,h1,h2,_⟩:=dd;exact⟨ob,h1,h2.2.1⟩
 ·obtain⟨_,hd,xs,_,dd⟩:=dt_rd I.hok e;refine⟨dd.typeIs,fun b q=>?_,hd⟩;cases q;obtain⟨ob,_,_,h1,h2,_⟩:=dd;exact⟨ob,h1,h2.2.1⟩
section
variable {X:Cx}{pins:List (Addr×Obj)}{σ:St}{H:Hp}{s:Shared}{a:Addr}{y d:V}{u r:Value}{o:Option V}{A:Around}{E:Value->Shared->Prop}
end
section
variable {X:Cx}{o e f:Expr}{apos cpos:Pos}{td ty tx:TE}
end
section
variable {X:Cx}{pins:List (Addr×Obj)}{σ:St}{H:Hp}{s:Shared}{a:Addr}{kvs:List (Key×V)}{A:Around}{E:Value->Shared->Prop}
end
section
variable {X:Cx}{pins:List (Addr×Obj)}{σ:St}{H:Hp}{s:Shared}{a:Addr}{y:V}{u:Value}{A:Around}{E:Value->Shared->Prop}
end
section
variable {X:Cx}
end
section
variable {κ:Type} [DecidableEq κ]
end
section
variable {X:Cx}{pins:List (Addr×Obj)}{σ:St}{H:Hp}{s:Shared}{a:Addr}{kvs:List (Key×V)}{o:Obj}
end
section
variable {X:Cx}
end
end L2
set_option maxHeartbeats 1000000
namespace L2
open PySem PySem.Spec PyProof.Rows
open PySem.SeqAt (EqAt)
section
variable {prog:Program}{w:World}{A:Around}{E:Value->Shared->Prop}{s:Shared}{a b:Addr}{kvs kvs2:List (Key×Value)}{nm:String}
end
section
variable {X:Cx}{pins:List (Addr×Obj)}{σ:St}{H:Hp}{s:Shared}{a b:Addr}{kvs kvs2:List (Key×V)}{f g:Key->PyData}
end
end L2
namespace L2
open PySem PySem.Spec PyProof.Rows
section
variable {X:Cx}
end
section
variable {K:A0a}{H:Hp}{Q:VK}{a b:Addr}{kvs kvs2:List (Key×V)}{σ:St}{td ty tx tv:TE}
end
def pairD (p:Int×Int):PyData:=.tuple ([p.1,p.2].map B1z)
section
variable {X:Cx}
end
section
variable {X:Cx}
end
section
variable {K:A0a}{tl:TE}{tt:TT}{te:TE}{Q:VK}{σ:St}{H:Hp}{a:Addr}{kvs:List (Key×V)}
end
section
variable {X:Cx}
end
section
variable {X:Cx}
end
section
variable {K:A0a}{tl:TE}{tt:TT}{te:TE}{Q:VK}{σ:St}{H:Hp}{a b:Addr}{kvs:List (Key×V)}{g:TG}{tb:TS}{D:c4x}
end
section
variable {prog:Program}{w:World}{A:Around}{E:Value->Shared->Prop}{s:Shared}{da ia:Addr}{es:Array DictEntry}{ep i:Nat}
end
section
variable {X:Cx}
end
section
variable {K:A0a}{H:Hp}{Q:VK}{a:Addr}{kvs:List (List Key×V)}{σ:St}{tk tv:TE}
end
end L2
namespace Tw
open PySem L2
variable {ds:List Dd}{rs:List Row}{ss:List Sm}{m:Nat}{r:Row}
theorem xsel_low:∀(vs:List Nat) (m:Nat),a2e vs (m%2^vs.length)=a2e vs m
 | [],_=>rfl
 | v::vs,m=>by
  have h1:(m%2^(vs.length+1)).testBit 0=m.testBit 0:=by rw[A4n];simp
  have h2:m%2^(vs.length+1)/2=(m/2)%2^vs.length:=by rw[A2s,B0y,A8w]
  show (if (m%2^(vs.length+1)).testBit 0=true then v else 0)^^^a2e vs (m%2^(vs.length+1)/2)=(if m.testBit 0=true then v else 0)^^^a2e vs (m/2);rw[h1,h2,xsel_low vs]
theorem symp_let {s r' s':Row}(h1:r.x=r'.x)(h2:r.z=r'.z)(h3:s.x=s'.x)(h4:s.z=s'.z):a2v r s=a2v r' s':=by
 unfold a2v;rw[h1,h2,h3,h4]
structure Cd (n:Nat)(rs:List Row):Prop where
 len:rs.length<=n
 ok:∀r∈rs,r.Ok n
 com:∀r∈rs,∀s∈rs,a2v r s=false
 inj:∀{a b:Nat},a<2^rs.length->b<2^rs.length->a2e (rs.map (sn n)) a=a2e (rs.map (sn n)) b->a=b
structure Cw (ds:List Dd)(n m:Nat)(rs:List Row):Prop where
 len:rs.length=m
 at_:∀{k r},rs[k]? = some r->r.m<=1/\r.x=(im ds (2^k)).x/\r.z=(im ds (2^k)).z
theorem Cw.of_mem {n:Nat}(h:Cw ds n m rs)(hr:r∈rs):∃k,k<m/\r.m<=1/\r.x=(im ds (2^k)).x/\r.z=(im ds (2^k)).z:=by
 obtain⟨k,hk⟩:=List.getElem?_of_mem hr;exact⟨k,by rw[<- h.len];exact(List.getElem?_eq_some_iff.1 hk).1,h.at_ hk⟩
theorem Cw.nr {n:Nat}(h:Cw ds n m rs):rs.map NR=((A3a m).map fun k=>im ds (2^k)).map NR:=by
 apply List.ext_getElem?;intro k;rw[List.getElem?_map,List.getElem?_map,List.getElem?_map]
 rcases A2t k m with hk|hk
 ·have hk':k<rs.length:=by rw[h.len];exact hk
  rw[List.getElem?_eq_getElem hk',List.getElem?_range hk];obtain⟨_,h1,h2⟩:=h.at_ (List.getElem?_eq_getElem hk');show some (NR _)=some (NR _);unfold NR;rw[h1,h2]
 ·rw[List.getElem?_eq_none (by rw[h.len];exact hk),List.getElem?_eq_none (by rw[A3w];exact hk)];rfl
theorem Cw.cd {n:Nat}(h:Cw ds n m rs)(hds:∀d∈ds,d.Ok n)(hm:m<=n)(hn:n<=40):Cd n rs:=by
 have M:=Mx.plain hn hds hm
 have ok:∀r∈rs,r.Ok n:=fun r hr=>by
  obtain⟨k,hk,h0,h1,h2⟩:=h.of_mem hr;have o:=d4c hds (show 2^k<2^n from A1w (by decide) (by omega));exact⟨h0,by rw[h1];exact o.x,by rw[h2];exact o.z⟩
 refine⟨by rw[h.len];exact hm,ok,fun r hr s hs=>?_,fun {a b} ha hb e=>?_⟩
 ·obtain⟨k,hk,h0,h1,h2⟩:=h.of_mem hr;obtain⟨j,hj,g0,g1,g2⟩:=h.of_mem hs;rw[symp_let h1 h2 g1 g2];exact d4a hds _ _
 ·have hi:=M.ind;rw[<- h.nr] at hi
  have q:∀w,a2e (rs.map Row.x) w<2^n:=fun w=>c2y w fun v hv=>by
   obtain⟨r,hr,rfl⟩:=A0r.1 hv;exact(ok r hr).x
  have e2:=e;rw[show rs.map (sn n)=rs.map (fun r=>r.x^^^r.z*2^n) from rfl,d3f,d3f] at e2;obtain⟨ex,ez⟩:=c7r (q a) (q b) e2;refine d5z hi (by rw[A0b];exact ha) (by rw[A0b];exact hb) ?_;rw[show rs.map NR=rs.map (fun r=>r.x^^^r.z*2^40) from rfl,d3f,d3f,ex,ez]
theorem Cd.all {n:Nat}(h:Cd n rs)(ok:d6x (rs.map (sn n)) ss)(hz:ss.length<=(rs.map (sn n)).length):ss.length=(rs.map (sn n)).length:=by
 refine B0u hz ?_
 have h1:=d5m (l:=ss.map Sm.t) (n:=rs.length) (a2e (rs.map (sn n))) (fun a b ha hb e=>h.inj ha hb e) (fun v hv=>by
  obtain⟨m,e⟩:=ok.cov v
  exact⟨m%2^(ss.map Sm.t).length,A7u _ (A0x _),by rw[<- e];exact xsel_low _ _⟩)
 rw[A0b] at h1 ⊢;exact h1
theorem d6x.spn {us:List Nat}(ok:d6x us ss)(x:Nat):(red ss x 0).1=0 ↔ Spn us x:=by
 obtain⟨a,b,c⟩:=ok.left x
 constructor
 ·intro e;exact⟨_,a,b e⟩
 ·rintro⟨q,_,e⟩
  by_cases z:(red ss x 0).1=0
  ·exact z
  ·exact(c z q e).elim
theorem spn_symp {n:Nat}{u:Row}:∀{rs:List Row},(∀r∈rs,r.x<2^n/\a2v r u=false)->∀{m:Nat} {w:Row},w.x<2^n->a2e (rs.map (sn n)) m=sn n w->a2v w u=false
 | [],_,m,w,hw,e=>by
  obtain⟨e1,e2⟩:=c7r (w:=n) (x:=0) (z:=0) (x':=w.x) (z':=w.z) (A0x n) hw (by rw[A4r,A1q];exact e);rw[symp_let (r':=⟨0,0,0⟩) (s':=u) e1.symm e2.symm rfl rfl];exact symp_zero u
 | r::rs,h,m,w,hw,e=>by
  have ih:=fun {m w}=>spn_symp (rs:=rs) (fun s hs=>h s (A0e _ hs)) (m:=m) (w:=w);have e':(if m.testBit 0=true then sn n r else 0)^^^a2e (rs.map (sn n)) (m/2)=sn n w:=e
  by_cases hb:m.testBit 0=true
  ·rw[if_pos hb] at e';have a3:Add3 w r ⟨0,w.x^^^r.x,w.z^^^r.z⟩:=⟨rfl,rfl⟩
   have e2:a2e (rs.map (sn n)) (m/2)=sn n ⟨0,w.x^^^r.x,w.z^^^r.z⟩:=by
    rw[sn_add a3,<- e',A4y (sn n r),A1m,A1q,A1t]
   have h1:=ih (A1p hw (h r A0d).1) e2;rw[c6a a3,(h r A0d).2] at h1
   simpa using h1
  ·rw[if_neg hb,A2d] at e';exact ih hw e'
end Tw
namespace L2
open PySem
section
variable {X:Cx}
end
end L2
namespace Tw
open PySem L2
variable {ds:List Dd}{ks used:List Nat}{rs:List Row}{N a b d f i k:Nat}{g l r:Row}
theorem a3c (f a b:Nat):pb (f&&&(a^^^b))=(pb (f&&&a) ^^ pb (f&&&b)):=by
 rw[Nat.and_xor_distrib_left,c2g]
theorem b0f (j b:Nat):pb (2^j&&&b)=b.testBit j:=by
 rw[A0w,c8q,d1z]
theorem bit_of (h:b≠0)(hb:b<2^N):∃j,j<N/\b.testBit j=true:=by
 obtain⟨j,hj⟩:=A8d h;refine⟨j,?_,hj⟩
 rcases A2t j N with h1|h1
 ·exact h1
 ·rw[A0u (A0c hb (A0g (by decide) h1))] at hj;cases hj
theorem dual {N:Nat}:∀(l:List Nat) (b:Nat),(∀u∈l,u<2^N)->b<2^N->¬Spn l b->∃d,d<2^N/\(∀u∈l,pb (d&&&u)=false)/\pb (d&&&b)=true
 | [],b,_,hb,h=>by
  obtain⟨j,h1,h2⟩:=bit_of (N:=N) (fun z=>h ((sp_nil b).2 z)) hb;exact⟨2^j,A1w (by decide) h1,fun _ z=>(nomatch z),by rw[b0f];exact h2⟩
 | c::l,b,hl,hb,h=>by
  rw[a7d] at h;have hc:=hl c A0d;have hl':∀u∈l,u<2^N:=fun u hu=>hl u (A0e _ hu);obtain⟨d1,a1,a2,a3⟩:=dual l b hl' hb fun z=>h (.inl z);obtain⟨d2,b1,b2,b3⟩:=dual l (b^^^c) hl' (A1p hb hc) fun z=>h (.inr z);rw[a3c] at b3
  have mk:∀d,d<2^N->(∀u∈l,pb (d&&&u)=false)->pb (d&&&c)=false->pb (d&&&b)=true->∃d,d<2^N/\(∀u∈c::l,pb (d&&&u)=false)/\pb (d&&&b)=true:=fun d e1 e2 e3 e4=>⟨d,e1,fun u hu=>by
   rcases A1n.1 hu with rfl|hu
   ·exact e3
   ·exact e2 u hu,e4⟩
  cases hc1:pb (d1&&&c) with
  | false=>exact mk d1 a1 a2 hc1 a3
  | true=>
   cases hc2:pb (d2&&&c) with
   | false=>
    rw[hc2] at b3;exact mk d2 b1 b2 hc2 (by simpa using b3)
   | true=>
    rw[hc2] at b3;have hb2:pb (d2&&&b)=false:=by simpa using b3
    refine mk (d1^^^d2) (A1p a1 b1) (fun u hu=>?_) ?_ ?_
    ·rw[A0w,a3c,A0w u,A0w u,a2 u hu,b2 u hu];rfl
    ·rw[A0w,a3c,A0w c,A0w c,hc1,hc2];rfl
    ·rw[A0w,a3c,A0w b,A0w b,a3,hb2];rfl
theorem duals {N:Nat}:∀(us:List Nat),Ind us->(∀u∈us,u<2^N)->∃D:List Nat,D.length=us.length/\(∀d∈D,d<2^N)/\∀{i j d u:Nat},D[i]? = some d->us[j]? = some u->pb (d&&&u)=decide (i=j)
 | [],_,_=>⟨[],rfl,fun _ z=>(nomatch z),fun {i j d u} z _=>by simp at z⟩
 | b::l,hi,hb=>by
  obtain⟨h1,h2⟩:¬Spn l b/\Ind l:=hi;have hl:∀u∈l,u<2^N:=fun u hu=>hb u (A0e _ hu);obtain⟨D,e1,e2,e3⟩:=duals l h2 hl;obtain⟨d0,f1,f2,f3⟩:=dual l b hl (hb b A0d) h1;refine⟨d0::D.map (fun d=>if pb (d&&&b)=true then d^^^d0 else d),by simp[e1],fun d hd=>?_,fun {i j d u} hd hu=>?_⟩
  ·rcases A1n.1 hd with rfl|hd
   ·exact f1
   ·obtain⟨d',hd',rfl⟩:=A0r.1 hd
    split
    ·exact A1p (e2 d' hd') f1
    ·exact e2 d' hd'
  ·cases i with
   | zero=>
    obtain rfl:d0=d:=A0s hd
    cases j with
    | zero=>
     obtain rfl:b=u:=A0s hu;rw[f3];rfl
    | succ j=>
     rw[f2 u (List.mem_of_getElem? (show l[j]? = some u from hu))];exact(decide_eq_false (by omega)).symm
   | succ i=>
    have hd':(D.map (fun d=>if pb (d&&&b)=true then d^^^d0 else d))[i]? = some d:=hd;rw[List.getElem?_map] at hd'
    cases eD:D[i]? with
    | none=>rw[eD] at hd';cases hd'
    | some d'=>
     rw[eD] at hd';have hd2:(if pb (d'&&&b)=true then d'^^^d0 else d')=d:=A0s hd'
     cases j with
     | zero=>
      obtain rfl:b=u:=A0s hu;rw[decide_eq_false (by omega)]
      by_cases c:pb (d'&&&b)=true
      ·rw[if_pos c] at hd2;rw[<- hd2,A0w,a3c,A0w b,A0w b,c,f3];rfl
      ·rw[if_neg c] at hd2;rw[<- hd2]
       simpa using c
     | succ j=>
      have hu':l[j]? = some u:=hu;have k1:=e3 eD hu'
      have k2:decide (i+1=j+1)=decide (i=j):=by
       by_cases c:i=j
       ·rw[c,decide_eq_true rfl,decide_eq_true rfl]
       ·rw[decide_eq_false c,decide_eq_false (by omega)]
      rw[k2,<- k1]
      by_cases c:pb (d'&&&b)=true
      ·rw[if_pos c] at hd2;rw[<- hd2,A0w,a3c,A0w u,A0w u,f2 u (List.mem_of_getElem? hu')];simp
      ·rw[if_neg c] at hd2;rw[<- hd2]
theorem d4j {f:Nat}:∀{l:List Nat} (m:Nat),(∀u∈l,pb (f&&&u)=false)->pb (f&&&a2e l m)=false
 | [],_,_=>by rw[show a2e [] _=0 from rfl,A7y];exact b6t
 | v::l,m,h=>by
  show pb (f&&&((if m.testBit 0=true then v else 0)^^^a2e l (m/2)))=false;rw[a3c,d4j (m/2) fun u hu=>h u (A0e _ hu)]
  split
  ·rw[h v A0d];rfl
  ·rw[A7y,b6t];rfl
theorem pop_shl (c:Nat):∀n,pop (c*2^n)=pop c
 | 0=>by rw[Nat.pow_zero,Nat.mul_one]
 | n+1=>by
  rw[b0c,show c*2^(n+1)=2*(c*2^n) by rw[A2s];rw[<- Nat.mul_assoc,B0y]];rw[Nat.mul_mod_right,A7f _ (by decide),Nat.zero_add,pop_shl c n]
theorem pb_shift (a b n:Nat):pb (a*2^n&&&b*2^n)=pb (a&&&b):=by
 have e:a*2^n&&&b*2^n=(a&&&b)*2^n:=by
  rw[<- A3n,<- A3n,<- A3n];apply A1h;intro i;rw[A1k,A3v,A3v,A3v,A1k];cases decide (n<=i)<;>simp
 rw[e];unfold pb;rw[pop_shl]
theorem c6f {n:Nat}(h:a<2^n):a&&&b*2^n=0:=by
 apply A1h;intro i;rw[A1k,<- A3n,A3v,A1y]
 rcases A2t i n with hi|hi
 ·simp[Nat.not_le.2 hi]
 ·rw[A0u (A0c h (A0g (by decide) hi))];rfl
theorem pb_sn {n c:Nat}(ha:a<2^n)(hc:c<2^n):pb ((a^^^b*2^n)&&&(c^^^d*2^n))=(pb (a&&&c) ^^ pb (b&&&d)):=by
 rw[a3c,A0w,a3c,A0w _ (d*2^n),a3c,c6f hc,A0w (d*2^n) a,c6f ha,b6t,pb_shift,A0w c a,A0w d b];simp
def sw (n d:Nat):Nat:=(d/2^n)^^^(d%2^n)*2^n
theorem c1u (n d:Nat):d=(d%2^n)^^^(d/2^n)*2^n:=by
 have h:=Nat.mod_add_div d (2^n);have h1:=c6f (b:=d/2^n) (A7u d (A0x n));have h2:=b0n (d%2^n) (d/2^n*2^n);have h3:=b7q (d%2^n) (d/2^n*2^n);rw[B0y] at h;omega
theorem sw_lt {n:Nat}(h:d<2^(2*n)):sw n d<2^(2*n):=by
 unfold sw
 have h1:d/2^n<2^n:=by
  rw[A4z (A0x n),<- A6c];exact A0c h (A0g (by decide) (by omega))
 have h2:d%2^n*2^n<2^(2*n):=by
  rw[show 2*n=n+n by omega,A6c];exact A8q (A7u _ (A0x n)) (A0x n)
 exact A1p (A0c h1 (A0g (by decide) (by omega))) h2
theorem pb_sw {n:Nat}(ok:r.Ok n)(hd:d<2^(2*n)):pb (sn n ⟨0,r.z,r.x⟩&&&sw n d)=pb (sn n r&&&d):=by
 have h1:d/2^n<2^n:=by
  rw[A4z (A0x n),<- A6c];exact A0c hd (A0g (by decide) (by omega))
 conv=>rhs;rw[c1u n d]
 unfold sn sw;rw[pb_sn ok.z h1,pb_sn ok.x (A7u _ (A0x n)),B0c]
theorem symp_pb {n:Nat}{v:Row}(ok:r.Ok n)(kv:v.Ok n):pb (sn n ⟨0,r.z,r.x⟩&&&sn n v)=a2v r v:=by
 unfold sn;rw[pb_sn ok.z kv.x];unfold a2v;rw[B0c]
theorem ind_room {l:List Nat}(h:Ind l)(hl:∀u∈l,u<2^N):l.length<=N:=by
 have p:=pigeon (2^l.length) (2^N) (a2e l) (fun i _=>c2y i hl) (fun i j hi hj e=>d5z h hi hj e);exact(A9w (by decide)).1 p
theorem iso {n:Nat}(ok:∀r∈rs,r.Ok n)(com:∀r∈rs,∀s∈rs,a2v r s=false)(hi:Ind (rs.map (sn n))):rs.length<=n:=by
 have hu:∀u∈rs.map (sn n),u<2^(2*n):=fun u hu=>by
  obtain⟨r,hr,rfl⟩:=A0r.1 hu;exact sn_lt (ok r hr)
 obtain⟨D,e1,e2,e3⟩:=duals (N:=2*n) _ hi hu;rw[A0b] at e1
 have key:∀j,j<=rs.length->Ind (rs.map (sn n)++(D.map (sw n)).take j):=by
  intro j
  induction j with
  | zero=>intro _;rw[B1d,A3d];exact hi
  | succ j ih=>
   intro hj;have hjD:j<D.length:=by omega
   have hg:(D.map (sw n))[j]? = some (sw n D[j]):=by rw[List.getElem?_map,List.getElem?_eq_getElem hjD];rfl
   have hr:rs[j]? = some rs[j]:=List.getElem?_eq_getElem (by omega);rw[a0s hg,<- A6m];refine d5y (ih (by omega)) fun z=>?_;obtain⟨m,_,em⟩:=z;have okj:=ok rs[j] (A5p _)
   have hf:∀u∈rs.map (sn n)++(D.map (sw n)).take j,pb (sn n ⟨0,rs[j].z,rs[j].x⟩&&&u)=false:=fun u hu=>by
    rcases A0p.1 hu with hu|hu
    ·obtain⟨s,hs,rfl⟩:=A0r.1 hu;rw[symp_pb okj (ok s hs)];exact com _ (A5p _) s hs
    ·obtain⟨i,hi'⟩:=List.getElem?_of_mem hu;rw[List.getElem?_take] at hi'
     split at hi'
     ·rename_i hij;rw[List.getElem?_map] at hi'
      cases eD:D[i]? with
      | none=>rw[eD] at hi';cases hi'
      | some d=>
       rw[eD] at hi';obtain rfl:sw n d=u:=A0s hi';rw[pb_sw okj (e2 d (List.mem_of_getElem? eD)),A0w,e3 eD (by rw[List.getElem?_map,hr];rfl)];exact decide_eq_false (by omega)
     ·cases hi'
   have h1:=d4j m hf;rw[em,pb_sw okj (e2 _ (A5p _)),A0w,e3 (List.getElem?_eq_getElem hjD) (by rw[List.getElem?_map,hr];rfl),decide_eq_true rfl] at h1;cases h1
 have h2:=ind_room (N:=2*n) (key rs.length (A0k _)) fun u hu'=>by
  rcases A0p.1 hu' with h|h
  ·exact hu u h
  ·obtain⟨d,hd,rfl⟩:=A0r.1 (A1x h);exact sw_lt (e2 d hd)
 rw[A0j,A0b,A0q,A0b,e1,Nat.min_self] at h2;omega
theorem c9w (d:Dd)(b:List Dd)(r:Row):acts (d::b) r=acts b (act d r):=rfl
def w1 (l:Row)(k:Nat):List Dd:=if l.x.testBit k=true then (if l.z.testBit k=true then [⟨.back,[k]⟩,⟨.both,[k]⟩] else [⟨.both,[k]⟩]) else []
def w1s (l:Row):List Nat->List Dd
 | []=>[]
 | k::ks=>w1 l k++w1s l ks
def w2s (f:Nat):List Nat->List Dd
 | []=>[]
 | k::ks=>⟨.wher,[k,f]⟩::w2s f ks
def wk1 (l:Row):List Nat->List Dd
 | []=>[]
 | f::ks=>w1s l (f::ks)++w2s f ks++(if l.m=1 then [⟨.over,[f]⟩] else [])
theorem bit_pow (b:Bool)(k q:Nat):(b.toNat*2^k).testBit q=(b&&decide (k=q)):=a7w b k q
theorem w1_one (hx:g.x.testBit k=l.x.testBit k)(hz:g.z.testBit k=l.z.testBit k) :
  (acts (w1 l k) g).m=g.m/\(∀q,(acts (w1 l k) g).x.testBit q=(g.x.testBit q && !decide (k=q)))/\∀q,(acts (w1 l k) g).z.testBit q=(g.z.testBit q||(decide (k=q)&&g.x.testBit q)):=by
 unfold w1
 cases ex:l.x.testBit k with
 | false=>
  rw[if_neg (by decide)];refine⟨rfl,fun q=>?_,fun q=>?_⟩
  ·show g.x.testBit q=_
   by_cases c:k=q
   ·subst c;rw[hx,ex];rfl
   ·rw[decide_eq_false c];simp
  ·show g.z.testBit q=_
   by_cases c:k=q
   ·subst c;rw[hx,ex];simp
   ·rw[decide_eq_false c];simp
 | true=>
  rw[if_pos rfl];rw[ex] at hx
  cases ez:l.z.testBit k with
  | false=>
   rw[ez] at hz;rw[if_neg (by decide)];refine⟨?_,fun q=>?_,fun q=>?_⟩
   ·show g.m^^^(g.x.testBit k&&g.z.testBit k).toNat=g.m;rw[hx,hz];simp
   ·show (g.x^^^(g.x.testBit k ^^ g.z.testBit k).toNat*2^k).testBit q=_;rw[A0m,bit_pow,hx,hz]
    by_cases c:k=q
    ·subst c;rw[hx];simp
    ·rw[decide_eq_false c];simp
   ·show (g.z^^^(g.x.testBit k ^^ g.z.testBit k).toNat*2^k).testBit q=_;rw[A0m,bit_pow,hx,hz]
    by_cases c:k=q
    ·subst c;rw[hx,hz];simp
    ·rw[decide_eq_false c];simp
  | true=>
   rw[ez] at hz;rw[if_pos rfl]
   have e1:act ⟨.back,[k]⟩ g=⟨g.m,g.x,g.z^^^2^k⟩:=by
    show (⟨g.m^^^(g.x.testBit k && !g.z.testBit k).toNat,g.x,g.z^^^(g.x.testBit k).toNat*2^k⟩:Row)=_;rw[hx,hz];simp
   have e2:(g.z^^^2^k).testBit k=false:=by rw[A0m,hz,A4g];rfl
   have e3:acts [⟨.back,[k]⟩,⟨.both,[k]⟩] g=⟨g.m,g.x^^^2^k,g.z⟩:=by
    rw[c9w,e1];show (⟨g.m^^^(g.x.testBit k&&(g.z^^^2^k).testBit k).toNat,g.x^^^(g.x.testBit k ^^ (g.z^^^2^k).testBit k).toNat*2^k,(g.z^^^2^k)^^^(g.x.testBit k ^^ (g.z^^^2^k).testBit k).toNat*2^k⟩:Row)=_;rw[hx,e2];simp[A1m]
   rw[e3];refine⟨rfl,fun q=>?_,fun q=>?_⟩
   ·show (g.x^^^2^k).testBit q=_;rw[A0m,A2q]
    by_cases c:k=q
    ·subst c;rw[hx];simp
    ·rw[decide_eq_false c];simp
   ·show g.z.testBit q=_
    by_cases c:k=q
    ·subst c;rw[hz];simp
    ·rw[decide_eq_false c];simp
theorem w1s_all {l:Row}:∀{ks:List Nat} {g:Row},ks.Nodup->(∀k∈ks,g.x.testBit k=l.x.testBit k/\g.z.testBit k=l.z.testBit k)->
  (acts (w1s l ks) g).m=g.m/\(∀q,(acts (w1s l ks) g).x.testBit q=(g.x.testBit q && !decide (q∈ks)))/\∀q,(acts (w1s l ks) g).z.testBit q=(g.z.testBit q||(decide (q∈ks)&&g.x.testBit q))
 | [],g,_,_=>⟨rfl,fun q=>by simp[w1s,acts],fun q=>by simp[w1s,acts]⟩
 | k::ks,g,hn,h=>by
  obtain⟨n1,n2⟩:=A5g.1 hn;obtain⟨h1,h2⟩:=h k A0d;obtain⟨a1,a2,a3⟩:=w1_one h1 h2;have ne:∀j∈ks,k≠j:=fun j hj z=>n1 (z▸hj)
  obtain⟨b1,b2,b3⟩:=w1s_all (l:=l) (ks:=ks) (g:=acts (w1 l k) g) n2 fun j hj=>by
   obtain⟨c1,c2⟩:=h j (A0e _ hj);rw[a2,a3,decide_eq_false (ne j hj)];simp[c1,c2]
  rw[w1s,a7m];refine⟨b1.trans a1,fun q=>?_,fun q=>?_⟩
  ·rw[b2,a2]
   by_cases c:k=q
   ·subst c;simp
   ·have c':¬q=k:=fun z=>c z.symm;rw[decide_eq_false c];simp[c']
  ·rw[b3,a3,a2]
   by_cases c:k=q
   ·subst c;have:decide (k∈ks)=false:=decide_eq_false n1;rw[this];simp
   ·have c':¬q=k:=fun z=>c z.symm;rw[decide_eq_false c];simp[c']
theorem w2_one (hx:g.x=0):acts [⟨.wher,[k,f]⟩] g=⟨g.m,0,g.z^^^(g.z.testBit f).toNat*2^k⟩:=by
 show (⟨g.m^^^(g.x.testBit k&&g.z.testBit f && !(g.z.testBit k ^^ g.x.testBit f)).toNat,g.x^^^(g.x.testBit k).toNat*2^f,g.z^^^(g.z.testBit f).toNat*2^k⟩:Row)=_;rw[hx];simp
theorem w2s_all {f:Nat}:∀{ks:List Nat} {g:Row},ks.Nodup->f∉ks->g.x=0->g.z.testBit f=true->(∀k∈ks,g.z.testBit k=true)->
  (acts (w2s f ks) g).m=g.m/\(acts (w2s f ks) g).x=0/\∀q,(acts (w2s f ks) g).z.testBit q=(g.z.testBit q && !decide (q∈ks))
 | [],g,_,_,hx,_,_=>⟨rfl,hx,fun q=>by simp[w2s,acts]⟩
 | k::ks,g,hn,hf,hx,hzf,hz=>by
  obtain⟨n1,n2⟩:=A5g.1 hn;have kf:k≠f:=fun z=>hf (z▸A0d);have e:=w2_one (g:=g) (k:=k) (f:=f) hx;rw[hzf] at e
  have e':act ⟨.wher,[k,f]⟩ g=⟨g.m,0,g.z^^^2^k⟩:=by
   rw[show act ⟨.wher,[k,f]⟩ g=acts [⟨.wher,[k,f]⟩] g from rfl,e];simp
  have tb:∀q,(g.z^^^2^k).testBit q=(g.z.testBit q && !decide (q=k)):=fun q=>by
   rw[A0m,A2q]
   by_cases c:k=q
   ·subst c;rw[hz k A0d];simp
   ·have c':¬q=k:=fun z=>c z.symm;rw[decide_eq_false c,decide_eq_false c'];simp
  obtain⟨b1,b2,b3⟩:=w2s_all (f:=f) (ks:=ks) (g:=⟨g.m,0,g.z^^^2^k⟩) n2 (fun z=>hf (A0e _ z)) rfl (by show (g.z^^^2^k).testBit f=true;rw[tb,hzf,decide_eq_false (A4m kf)];rfl) fun j hj=>by
   show (g.z^^^2^k).testBit j=true;rw[tb,hz j (A0e _ hj),decide_eq_false (fun (z:j=k)=>n1 (z▸hj))];rfl
  rw[w2s,c9w,e'];refine⟨b1,b2,fun q=>?_⟩;rw[b3];show ((g.z^^^2^k).testBit q&&_)=_;rw[tb]
  by_cases c:q=k
  ·subst c;simp
  ·simp[c]
theorem wk1_all (hn:(f::ks).Nodup)(hm:g.m=l.m)(hm1:l.m<=1)(h:∀k∈f::ks,g.x.testBit k=l.x.testBit k/\g.z.testBit k=l.z.testBit k/\(l.x.testBit k||l.z.testBit k)=true)(hx:∀q,g.x.testBit q=true->q∈f::ks) :
  (acts (wk1 l (f::ks)) g).m=0/\(acts (wk1 l (f::ks)) g).x=0/\∀q,(acts (wk1 l (f::ks)) g).z.testBit q=(decide (q=f)||(g.z.testBit q && !decide (q∈ks))):=by
 obtain⟨n1,n2⟩:=A5g.1 hn;obtain⟨a1,a2,a3⟩:=w1s_all (l:=l) (ks:=f::ks) (g:=g) hn fun k hk=>⟨(h k hk).1,(h k hk).2.1⟩
 have x0:(acts (w1s l (f::ks)) g).x=0:=by
  apply A1h;intro q;rw[a2,A1y]
  by_cases c:q∈f::ks
  ·rw[decide_eq_true c];simp
  ·cases e:g.x.testBit q with
   | false=>rfl
   | true=>exact(c (hx q e)).elim
 have z1:∀k∈f::ks,(acts (w1s l (f::ks)) g).z.testBit k=true:=fun k hk=>by
  obtain⟨b1,b2,b3⟩:=h k hk;rw[a3,decide_eq_true hk,b1,b2];rw[Bool.or_comm] at b3
  simpa using b3
 obtain⟨c1,c2,c3⟩:=w2s_all (f:=f) (ks:=ks) (g:=acts (w1s l (f::ks)) g) n2 n1 x0 (z1 f A0d) fun k hk=>z1 k (A0e _ hk)
 have hz:∀q,(acts (w2s f ks) (acts (w1s l (f::ks)) g)).z.testBit q=(decide (q=f)||(g.z.testBit q && !decide (q∈ks))):=fun q=>by
  rw[c3]
  by_cases c:q=f
  ·subst c;rw[z1 q A0d,decide_eq_false n1];simp
  ·rw[a3]
   by_cases c':q∈ks
   ·simp[c,c']
   ·have:decide (q∈f::ks)=false:=decide_eq_false fun z=>by rcases A1n.1 z with z|z;exact c z;exact c' z
    rw[this];simp[c,c']
 unfold wk1;rw[a7m,a7m]
 by_cases c:l.m=1
 ·rw[if_pos c];have zf:(acts (w2s f ks) (acts (w1s l (f::ks)) g)).z.testBit f=true:=by rw[hz];simp
  refine⟨?_,c2,hz⟩;show (acts (w2s f ks) (acts (w1s l (f::ks)) g)).m^^^((acts (w2s f ks) (acts (w1s l (f::ks)) g)).z.testBit f).toNat=0;rw[zf,c1,a1,hm,c];rfl
 ·rw[if_neg c];refine⟨?_,c2,hz⟩;show (acts (w2s f ks) (acts (w1s l (f::ks)) g)).m=0;rw[c1,a1,hm];omega
theorem act_none {d:Dd}{n:Nat}(hd:d.Ok n)(h:∀k∈d.w,r.x.testBit k=false/\r.z.testBit k=false):act d r=r:=by
 obtain⟨o1,o2,o3,o4⟩:=hd.one;obtain⟨i1,i2⟩:=h _ o3;unfold act;generalize d.w.getD 0 0=i at o1 o2 o3 i1 i2 ⊢;generalize d.w.getD 1 0=j at o2 o4 ⊢;have tw:d.k.n=2->r.x.testBit j=false/\r.z.testBit j=false:=fun e=>h _ (o4 e);generalize d.k=kk at o2 o4 tw ⊢;obtain⟨m,x,z⟩:=r;dsimp only at i1 i2 tw;cases kk<;>simp only[a3j]
 ·rw[i2];simp
 ·rw[i1];simp
 ·rw[i1];simp
 ·rw[i1,i2];simp
 ·obtain⟨j1,j2⟩:=tw rfl;rw[i1,j2];simp
 ·obtain⟨j1,j2⟩:=tw rfl;unfold ex;rw[i1,i2,j1,j2];simp
theorem acts_far {n:Nat}:∀{ds:List Dd} {r:Row},(∀d∈ds,d.Ok n)->(∀d∈ds,∀k∈d.w,r.x.testBit k=false/\r.z.testBit k=false)->acts ds r=r
 | [],_,_,_=>rfl
 | d::ds,r,h1,h2=>by
  rw[c9w,act_none (h1 d A0d) (h2 d A0d)];exact acts_far (fun e he=>h1 e (A0e _ he)) fun e he=>h2 e (A0e _ he)
def sumR (rs:List Row)(m:Nat):Row:=⟨0,a2e (rs.map Row.x) m,a2e (rs.map Row.z) m⟩
theorem acts_sum (ds:List Dd):∀(rs:List Row) (m:Nat),(acts ds (sumR rs m)).x=a2e (rs.map fun r=>(acts ds r).x) m/\(acts ds (sumR rs m)).z=a2e (rs.map fun r=>(acts ds r).z) m
 | [],m=>by
  have h:Add3 (sumR [] m) (sumR [] m) (sumR [] m):=⟨(A1q 0).symm,(A1q 0).symm⟩;obtain⟨h1,h2⟩:=b4t (ds:=ds) h;have z:∀{a:Nat},a=a^^^a->a=0:=fun {a} e=>by rw[A1q] at e;exact e
  exact⟨z h1,z h2⟩
 | r::rs,m=>by
  obtain⟨i1,i2⟩:=acts_sum ds rs (m/2)
  by_cases c:m.testBit 0=true
  ·have h:Add3 r (sumR rs (m/2)) (sumR (r::rs) m):=by
    refine⟨?_,?_⟩
    ·show (if m.testBit 0=true then r.x else 0)^^^a2e (rs.map Row.x) (m/2)=_;rw[if_pos c];rfl
    ·show (if m.testBit 0=true then r.z else 0)^^^a2e (rs.map Row.z) (m/2)=_;rw[if_pos c];rfl
   obtain⟨h1,h2⟩:=b4t (ds:=ds) h;refine⟨?_,?_⟩
   ·rw[h1,i1];show _=(if m.testBit 0=true then (acts ds r).x else 0)^^^a2e (rs.map fun r=>(acts ds r).x) (m/2);rw[if_pos c]
   ·rw[h2,i2];show _=(if m.testBit 0=true then (acts ds r).z else 0)^^^a2e (rs.map fun r=>(acts ds r).z) (m/2);rw[if_pos c]
  ·have e1:(sumR (r::rs) m).x=(sumR rs (m/2)).x:=by
    show (if m.testBit 0=true then r.x else 0)^^^a2e (rs.map Row.x) (m/2)=_;rw[if_neg c,A2d];rfl
   have e2:(sumR (r::rs) m).z=(sumR rs (m/2)).z:=by
    show (if m.testBit 0=true then r.z else 0)^^^a2e (rs.map Row.z) (m/2)=_;rw[if_neg c,A2d];rfl
   obtain⟨h1,h2⟩:=b7y (ds:=ds) e1 e2;refine⟨?_,?_⟩
   ·rw[h1,i1];show _=(if m.testBit 0=true then (acts ds r).x else 0)^^^a2e (rs.map fun r=>(acts ds r).x) (m/2);rw[if_neg c,A2d]
   ·rw[h2,i2];show _=(if m.testBit 0=true then (acts ds r).z else 0)^^^a2e (rs.map fun r=>(acts ds r).z) (m/2);rw[if_neg c,A2d]
theorem d1w:∀{l:List Nat} (m:Nat),(∀u∈l,u=0)->a2e l m=0
 | [],_,_=>rfl
 | v::l,m,h=>by
  show (if m.testBit 0=true then v else 0)^^^a2e l (m/2)=0;rw[h v A0d,d1w (m/2) fun u hu=>h u (A0e _ hu)];simp
theorem c6n {l:List Nat}{N:Nat}:∀(i:Nat) (z:Nat),(∀q,z.testBit q=true->q<i)->(∀q,z.testBit q=true->Spn l (2^q))->Spn l z
 | 0,z,h,_=>by
  have:z=0:=by
   apply A1h;intro q;rw[A1y]
   cases e:z.testBit q with
   | false=>rfl
   | true=>have:=h q e;omega
  rw[this];exact Spn.zero l
 | i+1,z,h,g=>by
  cases e:z.testBit i with
  | false=>exact c6n (N:=N) i z (fun q hq=>by
    have h1:=h q hq
    rcases A2t q i with h2|h2
    ·exact h2
    ·have:q=i:=by omega
     rw[this,e] at hq
     cases hq) g
  | true=>
   have tb:∀q,(z^^^2^i).testBit q=true->z.testBit q=true/\q≠i:=fun q hq=>by
    rw[A0m,A2q] at hq
    by_cases c:i=q
    ·subst c;rw[e] at hq;simp at hq
    ·rw[decide_eq_false c] at hq;exact⟨by simpa using hq,fun z=>c z.symm⟩
   have ih:=c6n (N:=N) i (z^^^2^i) (fun q hq=>by have:=h q (tb q hq).1;have:=(tb q hq).2;omega) fun q hq=>g q (tb q hq).1;have:=ih.xor (g i e)
   rwa [A1m,A1q,A1t] at this
structure Mk1 (n:Nat)(ds:List Dd)(rs:List Row)(used:List Nat):Prop where
 dok:∀d∈ds,d.Ok n
 m:∀r∈rs,(acts ds r).m=0
 x:∀r∈rs,(acts ds r).x=0
 z:∀r∈rs,∀q,(acts ds r).z.testBit q=true->q∈used
 gen:∀q∈used,Spn (rs.map fun r=>(acts ds r).z) (2^q)
theorem Mk1.start (n:Nat):Mk1 n [] [] []:=⟨fun _ z=>(nomatch z),fun _ z=>(nomatch z),fun _ z=>(nomatch z),fun _ z=>(nomatch z),fun _ z=>(nomatch z)⟩
theorem Mk1.nox {n:Nat}(h:Mk1 n ds rs used)(com:∀s∈rs,a2v r s=false){q:Nat}(hq:q∈used):(acts ds r).x.testBit q=false:=by
 obtain⟨m,_,e⟩:=h.gen q hq
 have hf:∀u∈rs.map (fun r=>(acts ds r).z),pb ((acts ds r).x&&&u)=false:=fun u hu=>by
  obtain⟨s,hs,rfl⟩:=A0r.1 hu;have h1:=c9c h.dok r s;rw[com s hs] at h1;unfold a2v at h1;rw[h.x s hs,A7y,b6t] at h1
  simpa using h1
 have:=d4j m hf;rw[e,A0w,b0f] at this;exact this
theorem Mk1.some {n:Nat}(h:Mk1 n ds rs used)(hx:∀s∈rs,s.x<2^n)(hrx:r.x<2^n)(com:∀s∈rs,a2v r s=false)(hi:¬Spn (rs.map (sn n)) (sn n r)) :
  ∃q,q∉used/\((acts ds r).x.testBit q||(acts ds r).z.testBit q)=true:=by
 by_cases c:∃q,q∉used/\((acts ds r).x.testBit q||(acts ds r).z.testBit q)=true
 ·exact c
 ·exfalso
  have none:∀q,q∉used->(acts ds r).x.testBit q=false/\(acts ds r).z.testBit q=false:=fun q hq=>by
   have:¬((acts ds r).x.testBit q||(acts ds r).z.testBit q)=true:=fun z=>c ⟨q,hq,z⟩
   simpa using this
  have x0:(acts ds r).x=0:=by
   apply A1h;intro q;rw[A1y]
   by_cases hq:q∈used
   ·exact h.nox com hq
   ·exact(none q hq).1
  have hz:Spn (rs.map fun r=>(acts ds r).z) (acts ds r).z:=c6n (N:=n) ((acts ds r).z) _ (fun q hq=>by
    have:=A9m hq;have:=A6v (n:=q)
    omega) fun q hq=>h.gen q (by
     by_cases c':q∈used
     ·exact c'
     ·rw[(none q c').2] at hq;cases hq)
  obtain⟨m,hm,e⟩:=hz;obtain⟨s1,s2⟩:=acts_sum ds rs m
  have s1':(acts ds (sumR rs m)).x=(acts ds r).x:=by
   rw[s1,x0]
   exact d1w m fun u hu=>by
    obtain⟨s,hs,rfl⟩:=A0r.1 hu;exact h.x s hs
  have s2':(acts ds (sumR rs m)).z=(acts ds r).z:=by rw[s2,e]
  obtain⟨t1,t2⟩:=b7y (ds:=undo ds) s1' s2';rw[a6a h.dok,a6a h.dok] at t1 t2;refine hi ⟨m,by rw[A0b] at hm ⊢;exact hm,?_⟩;exact(c3b hx hrx m).2 ⟨t1,t2⟩
theorem Mk1.more {n:Nat}(h:Mk1 n ds rs used)(com:∀s∈rs,a2v r s=false)(hn:(f::ks).Nodup)(hk:∀k∈f::ks,k<n/\k∉used)
  (hm1:l.m<=1) (hlm:l.m=(acts ds r).m) (hl:∀k,k∉used->l.x.testBit k=(acts ds r).x.testBit k/\l.z.testBit k=(acts ds r).z.testBit k) (hks:∀k,k∈f::ks ↔ k∉used/\((acts ds r).x.testBit k||(acts ds r).z.testBit k)=true) :
  Mk1 n (ds++wk1 l (f::ks)) (rs++[r]) (used++[f]):=by
 have okw:∀d∈wk1 l (f::ks),d.Ok n/\∀k∈d.w,k∈f::ks:=by
  have one:∀(kk:DK) (k:Nat),kk.n=1->k∈f::ks->(⟨kk,[k]⟩:Dd).Ok n/\∀j∈(⟨kk,[k]⟩:Dd).w,j∈f::ks:=fun kk k e hk'=>⟨⟨e.symm,fun y hy=>by rw[A0h.1 hy];exact(hk k hk').1,by simp⟩,fun j hj=>by rw[A0h.1 hj];exact hk'⟩
  have p1:∀(L:List Nat),(∀k∈L,k∈f::ks)->∀d∈w1s l L,d.Ok n/\∀k∈d.w,k∈f::ks:=by
   intro L
   induction L with
   | nil=>intro _ d hd;cases hd
   | cons k L ih=>
    intro hL d hd;rw[w1s] at hd
    rcases A0p.1 hd with hd|hd
    ·unfold w1 at hd
     split at hd
     ·split at hd
      ·rcases A1n.1 hd with rfl|hd
       ·exact one .back k rfl (hL k A0d)
       ·rw[A0h.1 hd];exact one .both k rfl (hL k A0d)
      ·rw[A0h.1 hd];exact one .both k rfl (hL k A0d)
     ·cases hd
    ·exact ih (fun j hj=>hL j (A0e _ hj)) d hd
  have p2:∀(L:List Nat),(∀k∈L,k∈ks)->∀d∈w2s f L,d.Ok n/\∀k∈d.w,k∈f::ks:=by
   intro L
   induction L with
   | nil=>intro _ d hd;cases hd
   | cons k L ih=>
    intro hL d hd;rw[w2s] at hd
    rcases A1n.1 hd with rfl|hd
    ·have hk1:=hL k A0d;have kf:k≠f:=fun z=>(A5g.1 hn).1 (z▸hk1);refine⟨⟨rfl,fun y hy=>?_,by simp[kf]⟩,fun y hy=>?_⟩
     ·rcases A1n.1 hy with rfl|hy
      ·exact(hk _ (A0e _ hk1)).1
      ·rw[A0h.1 hy];exact(hk f A0d).1
     ·rcases A1n.1 hy with rfl|hy
      ·exact A0e _ hk1
      ·rw[A0h.1 hy];exact A0d
    ·exact ih (fun j hj=>hL j (A0e _ hj)) d hd
  intro d hd;unfold wk1 at hd
  rcases A0p.1 hd with hd|hd
  ·rcases A0p.1 hd with hd|hd
   ·exact p1 _ (fun k hk=>hk) d hd
   ·exact p2 _ (fun k hk=>hk) d hd
  ·split at hd
   ·rw[A0h.1 hd];exact one .over f rfl A0d
   ·cases hd
 have old:∀s∈rs,acts (ds++wk1 l (f::ks)) s=acts ds s:=fun s hs=>by
  rw[a7m];refine acts_far (fun d hd=>(okw d hd).1) fun d hd k hk'=>?_;have hu:=(hk k ((okw d hd).2 k hk')).2;refine⟨by rw[h.x s hs,A1y],?_⟩
  cases e:(acts ds s).z.testBit k with
  | false=>rfl
  | true=>exact(hu (h.z s hs k e)).elim
 have fu:=(hk f A0d).2;obtain⟨n1,n2⟩:=A5g.1 hn
 obtain⟨a1,a2,a3⟩:=wk1_all (l:=l) (g:=acts ds r) hn hlm.symm hm1 (fun k hk'=>by
  obtain⟨e1,e2⟩:=hl k (hk k hk').2
  exact⟨e1.symm,e2.symm,by rw[e1,e2];exact((hks k).1 hk').2⟩) fun q hq=>(hks q).2 ⟨fun z=>(by rw[h.nox com z] at hq;cases hq),(by rw[hq];rfl)⟩
 have zr:∀q,q∉used->q≠f->(acts (ds++wk1 l (f::ks)) r).z.testBit q=false:=fun q hq hf=>by
  rw[a7m,a3,decide_eq_false hf,Bool.false_or]
  by_cases c:q∈ks
  ·rw[decide_eq_true c];simp
  ·cases e:(acts ds r).z.testBit q with
   | false=>rfl
   | true=>
    have:=(hks q).2 ⟨hq,by rw[e];simp⟩
    rcases A1n.1 this with z|z
    ·exact(hf z).elim
    ·exact(c z).elim
 have eqm:(rs.map fun r=>(acts (ds++wk1 l (f::ks)) r).z)=rs.map fun r=>(acts ds r).z:=A5n fun s hs=>by rw[old s hs]
 have up:∀{v},Spn (rs.map fun r=>(acts ds r).z) v->Spn ((rs++[r]).map fun r=>(acts (ds++wk1 l (f::ks)) r).z) v:=fun {v} hv=>by
  rw[A0f,eqm];exact(sp_snoc _ _ _).2 (.inl hv)
 refine⟨fun d hd=>?_,fun s hs=>?_,fun s hs=>?_,fun s hs q hq=>?_,fun q hq=>?_⟩
 ·rcases A0p.1 hd with hd|hd
  ·exact h.dok d hd
  ·exact(okw d hd).1
 ·rcases A0p.1 hs with hs|hs
  ·rw[old s hs];exact h.m s hs
  ·rw[A0h.1 hs,a7m];exact a1
 ·rcases A0p.1 hs with hs|hs
  ·rw[old s hs];exact h.x s hs
  ·rw[A0h.1 hs,a7m];exact a2
 ·rcases A0p.1 hs with hs|hs
  ·rw[old s hs] at hq;exact A2g _ (h.z s hs q hq)
  ·rw[A0h.1 hs] at hq
   by_cases c:q∈used
   ·exact A2g _ c
   ·by_cases c2:q=f
    ·rw[c2];exact A0v _ (by simp)
    ·rw[zr q c c2] at hq;cases hq
 ·rcases A0p.1 hq with hq|hq
  ·exact up (h.gen q hq)
  ·rw[A0h.1 hq];have hzf:(acts (ds++wk1 l (f::ks)) r).z.testBit f=true:=by rw[a7m,a3];simp
   have b1g:Spn (rs.map fun r=>(acts ds r).z) ((acts (ds++wk1 l (f::ks)) r).z^^^2^f):=c6n (N:=n) ((acts (ds++wk1 l (f::ks)) r).z^^^2^f) _ (fun q hq=>by
     have:=A9m hq;have:=A6v (n:=q)
     omega) fun q hq=>h.gen q (by
    rw[A0m,A2q] at hq
    by_cases c:q∈used
    ·exact c
    ·by_cases c2:q=f
     ·subst c2;rw[hzf] at hq;simp at hq
     ·rw[zr q c c2,decide_eq_false (fun z=>c2 z.symm)] at hq
      cases hq)
   rw[A0f,eqm,A3y];exact(sp_snoc _ _ _).2 (.inr (by rw[A4y];exact b1g))
theorem d3r:∀{n:Nat} {l:List Nat},l.Nodup->(∀k∈l,k<n)->l.length<=n
 | 0,l,_,h=>by
  cases l with
  | nil=>exact A0k _
  | cons k l=>exact absurd (h k A0d) (B0z k)
 | n+1,l,nd,h=>by
  by_cases c:n∈l
  ·have h1:=List.length_erase_of_mem c
   have h2:=d3r (n:=n) (nd.erase n) fun k hk=>by
    have h3:=(List.Nodup.mem_erase_iff nd).1 hk;have:=h k h3.2;have:=h3.1;omega
   omega
  ·have:=d3r (n:=n) nd fun k hk=>by
    have h3:=h k hk;have:k≠n:=fun z=>c (z▸hk);omega
   omega
def trs (n:Nat):Nat->Nat
 | 0=>0
 | i+1=>trs n i+3*(n-i)
theorem trs_le {n:Nat}(h:n<=40):trs n n<=5000/\(n<10->trs n n<=200):=by
 have:∀k:Fin 41,trs k.1 k.1<=5000/\(k.1<10->trs k.1 k.1<=200):=by decide +kernel
 exact this ⟨n,by omega⟩
theorem trs_up {n:Nat}:∀{i:Nat},trs n i<=trs n (i+1):=fun {i}=>by rw[trs];omega
theorem trs_mono {n j:Nat}(h:i<=j):trs n i<=trs n j:=by
 induction h with
 | refl=>exact A0k _
 | step _ ih=>exact A1z ih trs_up
theorem wl1 (l:Row):∀ks:List Nat,(w1s l ks).length<=2*ks.length
 | []=>A0k _
 | k::ks=>by
  have h:=wl1 l ks
  have h2:(w1 l k).length<=2:=by
   unfold w1
   split
   ·split
    ·exact A0k _
    ·exact A5x 1
   ·exact A1v _
  rw[w1s,A0j,A1c];omega
theorem wl2 (f:Nat):∀ks:List Nat,(w2s f ks).length=ks.length
 | []=>rfl
 | k::ks=>by rw[w2s,A1c,A1c,wl2 f ks]
theorem wk1_len (l:Row)(f:Nat)(ks:List Nat):(wk1 l (f::ks)).length<=3*(f::ks).length:=by
 have h1:=wl1 l (f::ks);have h2:=wl2 f ks;unfold wk1;rw[A0j,A0j,h2,A1c];rw[A1c] at h1
 split
 ·rw[A3e];omega
 ·rw[A8r];omega
structure Mks (n:Nat)(rs:List Row)(i:Nat)(ds:List Dd)(used:List Nat)(free:Nat):Prop where
 done:Mk1 n ds (rs.take i) used
 len:used.length=i
 nd:used.Nodup
 lt:∀q∈used,q<n
 fr:∀q,free.testBit q=true ↔ q<n/\q∉used
 sz:ds.length<=trs n i
theorem Mks.start (n:Nat)(rs:List Row):Mks n rs 0 [] [] (2^n-1):=by
 refine⟨by rw[B1d];exact Mk1.start n,rfl,List.nodup_nil,fun _ z=>(nomatch z),fun q=>?_,A0k _⟩;rw[Nat.testBit_two_pow_sub_one];simp
theorem Mks.left {n:Nat}{free:Nat}(h:Mks n rs i ds used free)(g:Gd n rs)(ok:∀r∈rs,r.Ok n)(hr:rs[i]? = some r) :
  (⟨(acts ds r).m,(acts ds r).x&&&free,(acts ds r).z&&&free⟩:Row).Ok n/\(((acts ds r).x&&&free)|||((acts ds r).z&&&free))≠0:=by
 have hm:=List.mem_of_getElem? hr;have o:=b9a (ok r hm) h.done.dok;refine⟨⟨o.m,A2m A4u o.x,A2m A4u o.z⟩,?_⟩;have sub:∀s∈rs.take i,s∈rs:=fun s hs=>A1x hs
 have ns:¬Spn ((rs.take i).map (sn n)) (sn n r):=fun z=>g.2.2 ⟨i,sn n r,by rw[List.getElem?_map,hr];rfl,by
  refine Spn.sub (l:=(rs.take i).map (sn n)) (fun a ha=>Spn.mem ?_) z;rw[List.eraseIdx_eq_take_drop_succ,<- B1s]
  exact A2g _ ha⟩
 obtain⟨q,hq,hb⟩:=h.done.some (fun s hs=>(ok s (sub s hs)).x) (ok r hm).x (fun s hs=>g.2.1 r hm s (sub s hs)) ns;intro z
 have e:(((acts ds r).x&&&free)|||((acts ds r).z&&&free)).testBit q=true:=by
  have ql:q<n:=by
   rcases A2t q n with c|c
   ·exact c
   ·have p:=A0g (show 0<2 by decide) c;rw[A0u (A0c o.x p),A0u (A0c o.z p)] at hb;cases hb
  rw[A4q,A1k,A1k,(h.fr q).2 ⟨ql,hq⟩,A3m,A3m];exact hb
 rw[z,A1y] at e;cases e
theorem Mks.more {n i:Nat}{rs:List Row}{ds:List Dd}{used:List Nat}{free:Nat}(h:Mks n rs i ds used free)(g:Gd n rs)(ok:∀r∈rs,r.Ok n){r l:Row}(hr:rs[i]? = some r)(hl:l=⟨(acts ds r).m,(acts ds r).x&&&free,(acts ds r).z&&&free⟩)
  {f:Nat} {ks:List Nat} (nd:(f::ks).Nodup) (hk:∀k,k∈f::ks ↔ (l.x|||l.z).testBit k=true) :
  Mks n rs (i+1) (ds++wk1 l (f::ks)) (used++[f]) (free^^^2^f):=by
 have hm:=List.mem_of_getElem? hr;have o:=b9a (ok r hm) h.done.dok;have sub:∀s∈rs.take i,s∈rs:=fun s hs=>A1x hs
 have ql:∀q,((acts ds r).x.testBit q||(acts ds r).z.testBit q)=true->q<n:=fun q hb=>by
  rcases A2t q n with c|c
  ·exact c
  ·have p:=A0g (show 0<2 by decide) c;rw[A0u (A0c o.x p),A0u (A0c o.z p)] at hb;cases hb
 have hks:∀k,k∈f::ks ↔ k∉used/\((acts ds r).x.testBit k||(acts ds r).z.testBit k)=true:=fun k=>by
  rw[hk,hl];show (((acts ds r).x&&&free)|||((acts ds r).z&&&free)).testBit k=true ↔ _;rw[A4q,A1k,A1k,<- Bool.and_or_distrib_right,A2h,h.fr k];exact⟨fun⟨z1,z2⟩=>⟨z2.2,z1⟩,fun⟨z1,z2⟩=>⟨z2,ql k z2,z1⟩⟩
 have hkn:∀k∈f::ks,k<n/\k∉used:=fun k z=>⟨ql k ((hks k).1 z).2,((hks k).1 z).1⟩;have hf:=hkn f A0d;have ndu:(used++f::ks).Nodup:=A9y.2 ⟨h.nd,nd,fun a ha b hb z=>(hkn b hb).2 (z▸ha)⟩
 have lu:=d3r (n:=n) ndu fun k hk'=>by
  rcases A0p.1 hk' with z|z
  ·exact h.lt k z
  ·exact(hkn k z).1
 rw[A0j,h.len] at lu;refine⟨?_,by rw[A0j,h.len];rfl,A9y.2 ⟨h.nd,by simp,fun a ha b hb z=>hf.2 (by rw[A0h.1 hb] at z;exact z▸ha)⟩,fun q hq=>?_,fun q=>?_,?_⟩
 ·rw[a0s hr];refine h.done.more (fun s hs=>g.2.1 r hm s (sub s hs)) nd hkn ?_ ?_ (fun k hk'=>?_) hks
  ·rw[hl];exact o.m
  ·rw[hl]
  ·rw[hl]
   have fz:∀v:Nat,v<2^n->(v&&&free).testBit k=v.testBit k:=fun v hv=>by
    rw[A1k]
    rcases A2t k n with c|c
    ·rw[(h.fr k).2 ⟨c,hk'⟩,A3m]
    ·rw[A0u (A0c hv (A0g (show 0<2 by decide) c))];rfl
   exact⟨fz _ o.x,fz _ o.z⟩
 ·rcases A0p.1 hq with z|z
  ·exact h.lt q z
  ·rw[A0h.1 z];exact hf.1
 ·rw[A0m,A2q];have h1:=h.fr q
  by_cases c:f=q
  ·subst c;rw[(h.fr f).2 hf];simp
  ·rw[decide_eq_false c,A3j,h1,A0p,A0h]
   constructor
   ·rintro⟨z1,z2⟩;exact⟨z1,fun z=>z.elim z2 fun z=>c z.symm⟩
   ·rintro⟨z1,z2⟩;exact⟨z1,fun z=>z2 (.inl z)⟩
 ·have:=wk1_len l f ks;have:=h.sz;rw[A0j,trs];omega
end Tw
namespace L2
open PySem
variable {K:A0a}{a:Addr}{H:Hp}{xs:List V}{σ:St}{te:TE}{tt:TT}{Q:VK}
theorem bigN {n:Nat}(h:n<=100000):n<sizeLine:=A2m h (by decide)
section
variable {K:A0a}{H:Hp}{Q:VK}{σ:St}{a b l:Addr}{xs zs:List V}{y:V}
theorem st_extendB (h:H a=some (.lst xs))(hb:H b=some (.lst zs))(hz:xs.length+zs.length<=100000)(q:Q .non (upd H a (.lst (xs++zs)))):rExtend (.ref a) [.ref b] H Q:=⟨a,b,xs,zs,rfl,rfl,h,hb,A3q (bigN hz),q⟩
end
theorem comp_lstB (Pv:Nat->List V->Hp->Prop)(hn:xs.length<=100000)(h0:Pv 0 [] H)(hl:∀i ys H,Pv i ys H->ys.length<=i)(hk:∀i ys H,Pv i ys H->SqL K H a xs)
  (hs:∀i x ys H,xs[i]? = some x->Pv i ys H->tt (some x::σ) H fun b H2=>if b=true then te (some x::σ) H2 fun y H3=>Pv (i+1) (ys++[y]) H3 else Pv (i+1) ys H2)
  (hd:∀ys H,Pv xs.length ys H->∀p,H p=none->Q (.ref p) (upd H p (.lst ys))) :
  ∃W:Nat->Nat->List V->Hp->Prop,(∃m,W 0 m [] H)/\∀i m ys H,W i m ys H->((Itl K a).stop i H/\∀p,H p=none->Q (.ref p) (upd H p (.lst ys)))\/
   ((Itl K a).go i H/\ys.length<sizeLine/\∃N:List V->Hp->Prop,(∀ys' H',N ys' H'->∃m',m'<m/\W (i+1) m' ys' H')/\
    ∀x H',(Itl K a).yld i H x H'->tt (some x::σ) H' fun b H2=>if b=true then te (some x::σ) H2 fun y H3=>N (ys++[y]) H3 else N ys H2):=by
 refine⟨fun i m ys H=>m=xs.length-i/\i<=xs.length/\Pv i ys H,⟨xs.length,by simp,A1v _,h0⟩,?_⟩;rintro i m ys H ⟨rfl,hi,p⟩
 by_cases hlt:i<xs.length
 ·refine .inr ⟨⟨xs,xs[i],hk i ys H p,by simp[hlt]⟩,bigN (by have:=hl i ys H p;omega),Pv (i+1),fun ys' H' p'=>⟨xs.length-(i+1),by omega,rfl,hlt,p'⟩,fun x H' y=>?_⟩;obtain⟨e,y⟩:=y;subst e;exact hs i x ys _ (y xs (hk i ys _ p)) p
 ·have e:i=xs.length:=by omega
  subst e;exact .inl ⟨⟨xs,hk _ ys H p,A0k _⟩,hd ys H p⟩
theorem c3u {tl:TE}(e:∀P:V->Hp->Prop,P (.ref a) H->tl σ H P)(s:SqL K H a xs)(Pv:Nat->List V->Hp->Prop)(hn:xs.length<=100000)(h0:Pv 0 [] H)(hl:∀i ys H,Pv i ys H->ys.length<=i)(hk:∀i ys H,Pv i ys H->SqL K H a xs)
  (hs:∀i x ys H,xs[i]? = some x->Pv i ys H->tt (some x::σ) H fun b H2=>if b=true then te (some x::σ) H2 fun y H3=>Pv (i+1) (ys++[y]) H3 else Pv (i+1) ys H2)
  (hd:∀ys H,Pv xs.length ys H->∀p,H p=none->Q (.ref p) (upd H p (.lst ys))):d0t (iList K tl) tt te σ H Q:=
 e _ ⟨a,rfl,⟨xs,s⟩,comp_lstB Pv hn h0 hl hk hs hd⟩
end L2
namespace L2
open PySem PySem.Spec PyProof.Rows
section
variable {prog:Program}{w:World}{A:Around}{E:Value->Shared->Prop}{s:Shared}{da ka:Addr}{xs:List (List Key×Addr×Value)}{k:List Key}{v:Value}
theorem sd_heap {Q:Value->Shared->Prop}(hu:(tupleKind (a2m prog w)).room A)(hkey:(tupleKind (a2m prog w)).is s.heap k ka)(hm:s.heap.DictOfH (tupleKind (a2m prog w)) da xs)(hsz:xs.length<=sizeLine)
  (h1:∀p,atKey xs k=some p->Q p.2 { s with toks:=s.toks+(tupleKind (a2m prog w)).draws k })
  (h2:atKey xs k=none->∀h',h'.DictOfH (tupleKind (a2m prog w)) da (storedH xs k ka v)->A5h da s.heap h'->Q v { s with heap:=h',toks:=s.toks+(tupleKind (a2m prog w)).draws k }) :
  wpAny (model prog w) A (dictSetDefault da (.ref ka) v) Q E s:=by
 obtain⟨o,es,ep,e1,e2,e3,e4,e5,e6⟩:=hm;unfold dictSetDefault
 try (with_reducible refine B0b ?_)
 refine A0n ((tupleKind (a2m prog w)).pyHash hu hkey (A0n (wpAny_dictFind_heap (s:={ s with toks:=s.toks+(tupleKind (a2m prog w)).draws k }) hu hkey e1 e3 e4 e5 e6 (fun no=>?_) fun j p hj=>?_)))
 ·have a0:=atKey_none_of_get no;have a1:k∉xs.map (·.1):=not_mem_keys_of_get no
  have sb:∀g,A5h da s.heap (s.heap.update da g):=fun g=>Heap.SameBut.update ..;refine A0n (wpAny_rule (A0n (wpAny_updateDictKeys (hz:=by have e:=size_of_entries e4;omega) (s:={ s with toks:=s.toks+(tupleKind (a2m prog w)).draws k }) e1 e3 (A1e (h2 a0 _ ⟨_,_,ep+1,Heap.get?_update_self _ e1 (Obj.isFreed_of_dict (Obj.data_mapDictKeys e3 _)),e2.mapDictKeys _,Obj.data_mapDictKeys e3 _,?_,?_,?_⟩ (sb _))))))
  ·rw[storedH_new a0];simp[e4,entryOfKey]
  ·rw[storedH_new a0];intro x m
   rcases List.mem_append.mp m with m|m
   ·exact(tupleKind (a2m prog w)).keeps (e5 x m) e1 e3 (sb _)
   ·rw[A0h] at m;subst m;exact(tupleKind (a2m prog w)).keeps hkey e1 e3 (sb _)
  ·rw[storedH_new a0,A0f,A9y];exact⟨e6,by simp,fun x mx y my=>by simp only[A2a,A9b,A0h] at my;subst my;exact fun z=>a1 (z▸mx)⟩
 ·refine A0n (wpAny_dictEntries (s:={ s with toks:=s.toks+(tupleKind (a2m prog w)).draws k }) e1 e3 ?_);have c:=h1 p (atKey_of_get e6 hj);rw[entry_at e4 j,hj];exact A0n (wpAny_rule (A1e c))
theorem sd_meets (lo:(da==sysModules)=false):MeetsIn prog w (Builtin.«dict.setdefault» ⟨[.ref da,.ref ka,v],[]⟩) (fun A R s=>(tupleKind (a2m prog w)).room A.in1/\∃k xs,(tupleKind (a2m prog w)).is s.heap k ka/\s.heap.DictOfH (tupleKind (a2m prog w)) da xs/\xs.length<=sizeLine/\
   (∀p,atKey xs k=some p->R (.ok (.ret p.2)) { s with toks:=s.toks+(tupleKind (a2m prog w)).draws k })/\
   (atKey xs k=none->∀h',h'.DictOfH (tupleKind (a2m prog w)) da (storedH xs k ka v)->A5h da s.heap h'->R (.ok (.ret v)) { s with heap:=h',toks:=s.toks+(tupleKind (a2m prog w)).draws k })):=
 .of_wp fun A R s ⟨hu,k,xs,hkey,hm,hsz,c1,c2⟩=>by
  unfold Builtin.«dict.setdefault» Builtin.Dict.keyAndDefault;refine A0n (A0n (wpAny_notOrdered_dict hm.typeIs ?_));show wpAny _ _ (pure (da,A3b ka,some v)) _ _ s;refine A1e ?_;show wpAny _ _ (if (da==sysModules)=true then _ else (dictSetDefault da (.ref ka) v >>= _)) _ _ s;rw[lo,if_neg (by decide)];exact A0n (sd_heap hu hkey hm hsz (fun p hp=>A1e ⟨_,rfl,c1 p hp⟩) fun hn h' hm' sb=>A1e ⟨_,rfl,c2 hn h' hm' sb⟩)
end
def tSetD (td ty tx:TE):TE:=fun σ H Q=>td σ H fun x H1=>∃a,x=.ref a/\IsD H1 a/\ty σ H1 fun y H2=>tx σ H2 fun z H3=>∃kvs k b,y=.ref b/\H3 a=some (.dT kvs)/\H3 b=some (.tup (k.map kV))/\kvs.length<sizeLine/\
 (∀v,c5d kvs k=some v->Q v H3)/\(c5d kvs k=none->Q z (upd H3 a (.dT (putK kvs k z))))
section
variable {X:Cx}{o e f:Expr}{apos cpos:Pos}{td ty tx:TE}
theorem pe_setD (hu:X.A.units+1<cLine)(ho:PE X o td)(he:PE X e ty)(hf:PE X f tx)(m:M2 X o "setdefault" apos e f cpos):PE X (.Call (.Attribute o "setdefault" apos) [e,f] [] cpos) (tSetD td ty tx):=by
 intro pins s σ H Q I h;refine wpAny_Call_method m.base m.few m.line PySem.F.plainAttrs_dict A8k PySem.F.type_dict_setdefault (thn (ho pins s σ H _ I h) fun u s1 hq9=>?_);obtain⟨x,H1,I1,rx,a,ex,d,q1⟩:=hq9;subst ex;obtain rfl:u=A3b a:=rx;obtain⟨t1,t2,lo⟩:=isD_at I1 d;refine⟨t1,t2,?_⟩;rw[m.trees];refine A7j rfl (B1b (A8y (thn (he pins s1 σ H1 _ I1 q1) fun iv s2 ⟨y,H2,I2,ry,q2⟩=>A8y (thn (hf pins s2 σ H2 _ I2 q2) fun fv s3 ⟨z,H3,I3,rz,kvs,k,b,ey,ea,eb,l,c1,c2⟩=>Calls.spliced_nil ?_))));subst ey;obtain rfl:iv=A3b b:=ry;obtain⟨hz,lo2,xs,rel,dd⟩:=dt_of I3.hok ea;have hl:xs.length<=sizeLine:=by rw[<- Paired.length rel];exact hz
 refine call_meetsIn A8k dd.typeIs PySem.F.entry_dict_setdefault (PySem.F.args_dict_setdefault_3 _ _ _) (sd_meets lo2) ⟨tupleKind_room_in1 hu,k,xs,key_of I3.hok eb,dd,hl,fun p hp=>?_,fun hn h' dd' hs=>?_⟩
 ·have rv:=rel.val k;rw[hp] at rv
  cases ev:c5d kvs k with
  | none=>rw[ev] at rv;exact(show False from rv).elim
  | some v0=>
   rw[ev] at rv;exact⟨v0,H3,I3.tok _,rv,c1 v0 ev⟩
 ·have ev:c5d kvs k=none:=by
   have rv:=rel.val k;rw[hn] at rv
   cases ev:c5d kvs k with
   | none=>rfl
   | some v0=>rw[ev] at rv;exact(show False from rv).elim
  have hl2:(putK kvs k z).length<=sizeLine:=by have:=c7w kvs k z;omega
  refine⟨z,_,?_,rz,c2 ev⟩;obtain⟨q,es,ep,hq,h2,h3,h4,_,h5⟩:=dd';refine d_write I3 (by rw[ea];exact A6w) hs ⟨q,hq⟩ ⟨hl2,lo2,_,(rel.put k eb rz).keeps fun c ys ec=>?_,q,es,ep,hq,h2,h3,h4,h5⟩;rw[a0w (a8x ec ea (fun z=>nomatch z))];exact ec
end
section
variable {X:Cx}{j k:Nat}{ι:Type}{CD:ι->Addr}{spm:ι->Sp}{ps:List Str}{m:Str}{pos apos:Pos}{e o:Expr}{es:List Expr}{ta:TE}{t:TA}
end
section
variable {H:Hp}{Q:VK}{σ:St}{td ty tx:TE}
theorem st_setD (h:td σ H fun x H1=>∃a,x=.ref a/\IsD H1 a/\ty σ H1 fun y H2=>tx σ H2 fun z H3=>∃kvs k b,y=.ref b/\H3 a=some (.dT kvs)/\H3 b=some (.tup (k.map kV))/\kvs.length<sizeLine/\(∀v,c5d kvs k=some v->Q v H3)/\(c5d kvs k=none->Q z (upd H3 a (.dT (putK kvs k z))))):tSetD td ty tx σ H Q:=h
theorem st_dnewT (q:∀p,H p=none->Q (.ref p) (upd H p (.dT []))):tDNewT σ H Q:=q
end
end L2
namespace Tw
open PySem L2
variable {l:List Row}{i k:Nat}{r u:Row}
def wt (r:Row):Nat:=pop (r.x|||r.z)
def bl (r:Row):Nat:=A1f ((r.x|||r.z:Nat):Int)
def m3 (w:Row)(k:Nat):List Row:=[⟨0,w.x|||2^k,w.z⟩,⟨0,w.x|||2^k,w.z|||2^k⟩,⟨0,w.x,w.z|||2^k⟩]
def mkr (w:Row)(b:Nat):Nat->List Row
 | 0=>[]
 | j+1=>mkr w b j++m3 w (b+j)
def more1 (n:Nat)(w:Row):List Row:=mkr w (bl w) (n-bl w)
def b4x (n:Nat)(ws:List Row):List Row:=ws.flatMap (more1 n)
def c2k (n:Nat):Nat->List Row
 | 0=>[⟨0,0,0⟩]
 | m+1=>b4x n (c2k n m)
def Wup (n:Nat):Nat->List Row
 | 0=>[⟨0,0,0⟩]
 | m+1=>Wup n m++c2k n (m+1)
theorem mkr_len (w:Row)(b:Nat):∀j,(mkr w b j).length=3*j
 | 0=>rfl
 | j+1=>by rw[mkr,A0j,mkr_len w b j];show _+3=_;omega
theorem more1_len {n:Nat}(hn:n<=9)(w:Row):(more1 n w).length<=27:=by unfold more1;rw[mkr_len];omega
theorem moreL_snoc (n:Nat)(ws:List Row)(w:Row):b4x n (ws++[w])=b4x n ws++more1 n w:=by
 unfold b4x;rw[List.flatMap_append];simp
theorem c1w {n:Nat}(hn:n<=9):∀ws:List Row,(b4x n ws).length<=27*ws.length
 | []=>by simp[b4x]
 | w::ws=>by
  have h1:=c1w hn ws;have h2:=more1_len hn w;have e:b4x n (w::ws)=more1 n w++b4x n ws:=by unfold b4x;rw[List.flatMap_cons]
  rw[A1c,e,A0j];omega
theorem c5x {n:Nat}(hn:n<=9):∀m,(c2k n m).length<=27^m
 | 0=>A0k _
 | m+1=>by
  have h1:=c1w hn (c2k n m);have h2:=c5x hn m;show (b4x n (c2k n m)).length<=_;rw[A2s];omega
theorem Wup_len {n:Nat}(hn:n<=9){m:Nat}(hm:m<=2):(Wup n m).length<=757:=by
 have h1:(c2k n 1).length<=27:=c5x hn 1;have h2:(c2k n 2).length<=729:=c5x hn 2
 match m,hm with
 | 0,_=>show 1<=757;decide
 | 1,_=>show ([(⟨0,0,0⟩:Row)]++c2k n 1).length<=757;rw[A0j];show 1+_<=_;omega
 | 2,_=>show (([(⟨0,0,0⟩:Row)]++c2k n 1)++c2k n 2).length<=757;rw[A0j,A0j];show 1+_+_<=_;omega
theorem mem_mkr {w:Row}{b:Nat}{r:Row}:∀{j},r∈mkr w b j ↔ ∃t,t<j/\r∈m3 w (b+t)
 | 0=>by simp[mkr]
 | j+1=>by
  rw[mkr,A0p,mem_mkr]
  constructor
  ·rintro (⟨t,h1,h2⟩|h)
   ·exact⟨t,by omega,h2⟩
   ·exact⟨j,by omega,h⟩
  ·rintro⟨t,h1,h2⟩
   rcases A2t t j with h|h
   ·exact .inl ⟨t,h,h2⟩
   ·have:t=j:=by omega
    subst this;exact .inr h2
theorem mem_more1 {n:Nat}{w:Row}:r∈more1 n w ↔ ∃k,bl w<=k/\k<n/\r∈m3 w k:=by
 unfold more1;rw[mem_mkr]
 constructor
 ·rintro⟨t,h1,h2⟩;exact⟨bl w+t,by omega,by omega,h2⟩
 ·rintro⟨k,h1,h2,h3⟩;exact⟨k-bl w,by omega,by rw[show bl w+(k-bl w)=k by omega];exact h3⟩
theorem c8h {n:Nat}{ws:List Row}:r∈b4x n ws ↔ ∃w∈ws,∃k,bl w<=k/\k<n/\r∈m3 w k:=by
 unfold b4x;rw[B0h]
 constructor
 ·rintro⟨w,h1,h2⟩;exact⟨w,h1,mem_more1.1 h2⟩
 ·rintro⟨w,h1,h2⟩;exact⟨w,h1,mem_more1.2 h2⟩
theorem bl_le {w:Row}:bl w<=k ↔ w.x|||w.z<2^k:=by
 unfold bl
 constructor
 ·intro h;exact A0c (c2m _) (A0g (by decide) h)
 ·intro h;exact b7j h
theorem pop_top {s:Nat}(h:s<2^k):pop (s|||2^k)=pop s+1:=by
 have h2:s|||2^k<2^(k+1):=A3g (A0c h (A0g (by decide) (by omega))) (A1w (by decide) (by omega));rw[b2h (k+1) _ h2,b2h k s h];show cnt _ k+((s|||2^k).testBit k).toNat=_
 have e:∀{j},j<=k->cnt (s|||2^k).testBit j=cnt s.testBit j:=by
  intro j
  induction j with
  | zero=>intro _;rfl
  | succ j ih=>
   intro hj;show cnt _ j+_=cnt _ j+_;rw[ih (by omega),A4q,A9n (by omega),Bool.or_false]
 rw[e (A0k k),A4q,A4g,Bool.or_true];rfl
structure Wn (n w:Nat)(r:Row):Prop where
 m:r.m=0
 x:r.x<2^n
 z:r.z<2^n
 w:wt r=w
theorem Wn.ok {n w:Nat}(h:Wn n w r):r.Ok n:=⟨by rw[h.m];decide,h.x,h.z⟩
theorem or3 {w:Row}(h:r∈m3 w k):r.m=0/\(r.x=w.x\/r.x=w.x|||2^k)/\(r.z=w.z\/r.z=w.z|||2^k)/\r.x|||r.z=(w.x|||w.z)|||2^k:=by
 have ac:∀a b c:Nat,a|||b|||c=a|||c|||b:=fun a b c=>by rw[A9f,A9f,A6d b c]
 unfold m3 at h
 rcases A1n.1 h with rfl|h
 ·exact⟨rfl,.inr rfl,.inl rfl,ac _ _ _⟩
 rcases A1n.1 h with rfl|h
 ·refine⟨rfl,.inr rfl,.inr rfl,?_⟩;show w.x|||2^k|||(w.z|||2^k)=_;rw[<- A9f,ac w.x (2^k) w.z,A9f _ (2^k),Nat.or_self]
 ·rw[A0h.1 h];exact⟨rfl,.inl rfl,.inr rfl,(A9f _ _ _).symm⟩
theorem c2t {n:Nat}:∀{m:Nat} {r:Row},r∈c2k n m->Wn n m r
 | 0,r,h=>by
  rw[A0h.1 h];exact⟨rfl,A0x n,A0x n,a9t⟩
 | m+1,r,h=>by
  obtain⟨w,hw,k,hb,hk,hr⟩:=c8h.1 h;have ih:=c2t hw;obtain⟨e0,e1,e2,e3⟩:=or3 hr;have hp:(2:Nat)^k<2^n:=A1w (by decide) hk;refine⟨e0,?_,?_,?_⟩
  ·rcases e1 with e|e<;>rw[e]
   ·exact ih.x
   ·exact A3g ih.x hp
  ·rcases e2 with e|e<;>rw[e]
   ·exact ih.z
   ·exact A3g ih.z hp
  ·unfold wt;rw[e3,pop_top (bl_le.1 hb)];have:=ih.w;unfold wt at this;omega
def l3 (k:Nat):List Row:=[⟨0,2^k,0⟩,⟨0,0,2^k⟩,⟨0,2^k,2^k⟩]
def b1t:Nat->List Row
 | 0=>[]
 | n+1=>b1t n++l3 n
def sup (r:Row):Nat:=r.x|||r.z
def orR (a b:Row):Row:=⟨0,a.x|||b.x,a.z|||b.z⟩
def pairs1 (L:List Row)(a:Row):List Row:=(L.filter fun b=>decide (sup b<sup a)).map (orR a)
def pairsR (L A:List Row):List Row:=A.flatMap (pairs1 L)
def LW (n:Nat):Nat->List Row
 | 0=>[⟨0,0,0⟩]
 | 1=>[⟨0,0,0⟩]++b1t n
 | _=>([⟨0,0,0⟩]++b1t n)++pairsR (b1t n) (b1t n)
theorem b0m {r:Row}:∀{n},r∈b1t n ↔ ∃k,k<n/\r∈l3 k
 | 0=>by simp[b1t]
 | n+1=>by
  rw[b1t,A0p,b0m]
  constructor
  ·rintro (⟨t,h1,h2⟩|h)
   ·exact⟨t,by omega,h2⟩
   ·exact⟨n,by omega,h⟩
  ·rintro⟨t,h1,h2⟩
   rcases A2t t n with h|h
   ·exact .inl ⟨t,h,h2⟩
   ·have:t=n:=by omega
    subst this;exact .inr h2
theorem l3_m3 :r∈l3 k ↔ r∈m3 ⟨0,0,0⟩ k:=by
 unfold l3 m3;simp only[Nat.zero_or,A1n,A4j,or_false]
 constructor
 ·rintro (h|h|h)
  ·exact .inl h
  ·exact .inr (.inr h)
  ·exact .inr (.inl h)
 ·rintro (h|h|h)
  ·exact .inl h
  ·exact .inr (.inr h)
  ·exact .inr (.inl h)
theorem b7w {n:Nat}:r∈c2k n 1 ↔ r∈b1t n:=by
 show r∈b4x n [⟨0,0,0⟩] ↔ _;rw[c8h,b0m]
 constructor
 ·rintro⟨w,hw,k,_,hk,hr⟩;rw[A0h.1 hw] at hr;exact⟨k,hk,l3_m3.2 hr⟩
 ·rintro⟨k,hk,hr⟩;exact⟨_,A0h.2 rfl,k,bl_le.2 (A0x k),hk,l3_m3.1 hr⟩
theorem l3_sup (h:r∈l3 k):sup r=2^k:=by
 have:=(or3 (l3_m3.1 h)).2.2.2;unfold sup;rw[this];simp
theorem or_m3 {a b:Row}(h:a∈l3 k):orR a b∈m3 b k:=by
 unfold l3 at h;unfold orR m3
 rcases A1n.1 h with rfl|h
 ·simp[A6d]
 rcases A1n.1 h with rfl|h
 ·simp[A6d]
 ·rw[A0h.1 h];simp[A6d]
theorem m3_or {w:Row}(h:r∈m3 w k):∃a∈l3 k,r=orR a w:=by
 unfold m3 at h
 rcases A1n.1 h with rfl|h
 ·exact⟨⟨0,2^k,0⟩,by simp[l3],by simp[orR,A6d]⟩
 rcases A1n.1 h with rfl|h
 ·exact⟨⟨0,2^k,2^k⟩,by simp[l3],by simp[orR,A6d]⟩
 ·rw[A0h.1 h];exact⟨⟨0,0,2^k⟩,by simp[l3],by simp[orR,A6d]⟩
theorem d2v {n:Nat}:r∈c2k n 2 ↔ r∈pairsR (b1t n) (b1t n):=by
 show r∈b4x n (c2k n 1) ↔ _;rw[c8h];unfold pairsR pairs1;rw[B0h]
 constructor
 ·rintro⟨w,hw,k,hb,hk,hr⟩;rw[b7w] at hw;obtain⟨a,ha,rfl⟩:=m3_or hr;refine⟨a,b0m.2 ⟨k,hk,ha⟩,A0r.2 ⟨w,A8s.2 ⟨hw,?_⟩,rfl⟩⟩;rw[l3_sup ha];exact decide_eq_true (bl_le.1 hb)
 ·rintro⟨a,ha,h2⟩;obtain⟨b,hb,rfl⟩:=A0r.1 h2;obtain⟨hb1,hb2⟩:=A8s.1 hb;obtain⟨k,hk,hak⟩:=b0m.1 ha;have lt:=of_decide_eq_true hb2;rw[l3_sup hak] at lt;exact⟨b,b7w.2 hb1,k,bl_le.2 lt,hk,or_m3 hak⟩
theorem Wup_LW {n m:Nat}(hm:m<=2):r∈Wup n m ↔ r∈LW n m:=by
 match m,hm with
 | 0,_=>exact Iff.rfl
 | 1,_=>
  show r∈[_]++c2k n 1 ↔ r∈[_]++b1t n;rw[A0p,A0p,b7w]
 | 2,_=>
  show r∈([_]++c2k n 1)++c2k n 2 ↔ r∈([_]++b1t n)++_;rw[A0p,A0p,A0p,A0p,b7w,d2v]
theorem srt_snoc {A B:List Row}{m:Nat}(h:A.Pairwise fun a b=>wt a<=wt b)(h1:∀a∈A,wt a<=m)(h2:∀b∈B,wt b=m+1):(A++B).Pairwise (fun a b=>wt a<=wt b)/\∀a∈A++B,wt a<=m+1:=by
 refine⟨A6n.2 ⟨h,?_,fun a ha b hb=>?_⟩,fun a ha=>?_⟩
 ·exact List.pairwise_of_forall_mem_list fun a ha b hb=>by rw[h2 a ha,h2 b hb];exact A0k _
 ·have:=h1 a ha;rw[h2 b hb];omega
 ·rcases A0p.1 ha with ha|ha
  ·have:=h1 a ha;omega
  ·rw[h2 a ha];exact A0k _
theorem srt0:([(⟨0,0,0⟩:Row)]).Pairwise (fun a b=>wt a<=wt b)/\∀a∈([(⟨0,0,0⟩:Row)]),wt a<=0:=by
 refine⟨A7g _ _,fun a ha=>?_⟩;rw[A0h.1 ha];exact B2b a9t
theorem c8v (n:Nat):∀m,(Wup n m).Pairwise (fun a b=>wt a<=wt b)/\∀a∈Wup n m,wt a<=m
 | 0=>srt0
 | m+1=>srt_snoc (c8v n m).1 (c8v n m).2 fun b hb=>(c2t hb).w
theorem c6z {n m:Nat}(hm:m<=2)(h:r∈Wup n m):r.m=0/\r.Ok n:=by
 have z:(⟨0,0,0⟩:Row).m=0/\(⟨0,0,0⟩:Row).Ok n:=⟨rfl,A1v _,A0x n,A0x n⟩;have hv:∀{j},r∈c2k n j->r.m=0/\r.Ok n:=fun h=>⟨(c2t h).m,(c2t h).ok⟩
 match m,hm with
 | 0,_=>rw[A0h.1 h];exact z
 | 1,_=>
  rcases A0p.1 (show r∈[_]++c2k n 1 from h) with h|h
  ·rw[A0h.1 h];exact z
  ·exact hv h
 | 2,_=>
  rcases A0p.1 (show r∈([_]++c2k n 1)++c2k n 2 from h) with h|h
  ·rcases A0p.1 h with h|h
   ·rw[A0h.1 h];exact z
   ·exact hv h
  ·exact hv h
theorem find_le {p:Row->Bool}:∀{A:List Row} {a b:Row},A.Pairwise (fun a b=>wt a<=wt b)->A.find? p=some a->b∈A->p b=true->wt a<=wt b
 | [],_,_,_,h,_,_=>by cases h
 | c::A,a,b,hs,h,hb,hp=>by
  obtain⟨o1,o2⟩:=A3z.1 hs;rw[List.find?_cons] at h
  cases hc:p c with
  | true=>
   rw[hc] at h;obtain rfl:=A0s h
   rcases A1n.1 hb with rfl|hb
   ·exact A0k _
   ·exact o1 b hb
  | false=>
   rw[hc] at h
   rcases A1n.1 hb with rfl|hb
   ·rw[hp] at hc;cases hc
   ·exact find_le o2 h hb hp
theorem b3g {p:Row->Bool}(h:l[i]? = some u):(l.take (i+1)).find? p=((l.take i).find? p).or (if p u=true then some u else none):=by
 rw[A9u,h,List.find?_append]
 congr 1
 show List.find? p [u]=_;rw[List.find?_cons];cases p u<;>rfl
theorem find_at {p:Row->Bool}(h:l[i]? = some u)(hp:p u=true)(hn:(l.take i).find? p=none):l.find? p=some u:=by
 have e:=b3g (p:=p) h;rw[hn,if_pos hp] at e;rw[<- A5v (i+1) l,List.find?_append,e];rfl
end Tw
namespace L2
open PySem
theorem d6q {ta tb':TE}{lo n:Nat}{g:TG}{tb:TS}{D:c4x}{σ:St}{H:Hp}(hl:lo<=1000)(hn:n<=1000)(e:∀P:List V->Hp->Prop,P [.int (lo:Int),.int (n:Int)] H->(c4p ta (c4p tb' tNil)) σ H P)(Pv:Nat->St->Hp->Prop)(h0:Pv 0 σ H)
  (hs:∀i σ H,i<n-lo->Pv i σ H->g (.int ((lo+i:Nat):Int)) σ H fun σ2 H2=>tb { D with nx:=Pv (i+1),ct:=Pv (i+1),bk:=D.nx } σ2 H2) (hd:∀σ H,Pv (n-lo) σ H->D.nx σ H):tFor (iRng2 (c4p ta (c4p tb' tNil))) g tb D σ H:=
 by
 unfold tFor iRng2;refine e _ ⟨(lo:Int),(n:Int),rfl,⟨by omega,by omega,by omega,by omega⟩,?_⟩;rw[show ((n:Int)-(lo:Int)).toNat=n-lo by omega];exact for_range Pv h0 (fun i σ H hi hp=>by rw[show (lo:Int)+(i:Int)=((lo+i:Nat):Int) by push_cast;rfl];exact hs i σ H hi hp) hd
end L2
namespace Tw
open PySem L2
def odl (f:Nat):List Sm->Nat
 | []=>f
 | s::r=>if pb (odl f r&&&s.t)=true then odl f r^^^2^s.j else odl f r
theorem odl_other {f:Nat}{b:Nat}:∀{ss:List Sm},(∀s∈ss,b.testBit s.j=false)->pb (odl f ss&&&b)=pb (f&&&b)
 | [],_=>rfl
 | s::r,h=>by
  have ih:=odl_other (f:=f) (b:=b) (ss:=r) fun t ht=>h t (A0e _ ht);unfold odl
  split
  ·rw[A0w,a3c,A0w b,A0w b,ih,b0f,h s A0d];simp
  ·exact ih
theorem d6d {f:Nat}:∀{ss:List Sm},(∀s∈ss,s.t.testBit s.j=true)->ss.Pairwise (fun a b=>b.t.testBit a.j=false)->∀s∈ss,pb (odl f ss&&&s.t)=false
 | [],_,_,s,hs=>by cases hs
 | u::r,h1,h2,s,hs=>by
  obtain⟨o1,o2⟩:=A3z.1 h2;have ih:=d6d (f:=f) (ss:=r) (fun t ht=>h1 t (A0e _ ht)) o2;unfold odl
  rcases A1n.1 hs with rfl|hs
  ·split
   ·rename_i c;rw[A0w,a3c,A0w s.t,A0w s.t,c,b0f,h1 s A0d];rfl
   ·rename_i c
    simpa using c
  ·split
   ·rw[A0w,a3c,A0w s.t,A0w s.t,ih s hs,b0f,o1 s hs];rfl
   ·exact ih s hs
def Stp (us:List Nat)(ss:List Sm)(x:Nat)(ss':List Sm):Prop:=
 ((red ss x (2^us.length)).1≠0/\∃j,(red ss x (2^us.length)).1.testBit j=true/\ss'=ss++[⟨j,(red ss x (2^us.length)).1,(red ss x (2^us.length)).2⟩])\/((red ss x (2^us.length)).1=0/\ss'=ss)
theorem tot_even {f:Nat}{ss:List Sm}(h:∀s∈ss,pb (f&&&s.t)=false){x:Nat}(t:Tot ss x):pb (f&&&x)=false:=by
 obtain⟨m,rfl⟩:=t
 exact d4j m fun u hu=>by
  obtain⟨s,hs,rfl⟩:=A0r.1 hu;exact h s hs
theorem Stp.odd {us:List Nat}{ss ss':List Sm}{x:Nat}(ok:d6x us ss)(h:Stp us ss x ss')(hx:¬Spn us x):∃s,ss'=ss++[s]/\(∀u∈us,pb (odl (2^s.j) ss&&&u)=false)/\pb (odl (2^s.j) ss&&&x)=true:=by
 have e2:∀w,(red ss x w).1=(red ss x 0).1:=by
  intro w
  have:∀(l:List Sm) (y a b:Nat),(red l y a).1=(red l y b).1:=by
   intro l
   induction l with
   | nil=>intro y a b;rfl
   | cons s l ih=>
    intro y a b;unfold red
    split
    ·exact ih _ _ _
    ·exact ih _ _ _
  exact this _ _ _ _
 rcases h with ⟨h0,j,hj,rfl⟩|⟨h0,_⟩
 ·refine⟨_,rfl,fun u hu=>?_,?_⟩
  ·obtain⟨k,hk⟩:=List.getElem?_of_mem hu;have t:=ok.cov (2^k);rw[b4s hk] at t;exact tot_even (d6d ok.bit ok.ord) t
  ·obtain⟨p,p1,p2,p3,p4⟩:=red_ok (l:=x) (w:=2^us.length) ok.tot ok.lt;have hf:=c2d (l:=x) (w:=2^us.length) ok.bit ok.ord;have ex:x=(red ss x (2^us.length)).1^^^a2e us p:=by rw[p2,A1m,A1q,A1t]
   have k1:=odl_other (f:=2^j) (b:=(red ss x (2^us.length)).1) (ss:=ss) hf;have k2:=tot_even (d6d (f:=2^j) ok.bit ok.ord) p4;show pb (odl (2^j) ss&&&x)=true;rw[ex,a3c,k1,k2,b0f,hj];rfl
 ·exact(hx ((ok.spn x).1 (by rw[<- e2 (2^us.length)];exact h0))).elim
end Tw
namespace L2
open PySem PySem.Spec PyProof.Rows
theorem pe_fldK {K:A0a}{X:Cx}{e:Expr}{ta:TE}{f:Str}{pos:Pos}(hK:X.K=K)(he:PE X e ta)(hb:attributeBase e f X.env (eval e X.env)=eval e X.env):PE X (.Attribute e f pos) (tFld K ta f):=hK▸a3b he hb
section
variable {K:A0a}{a:Addr}{xs:List V}{g:TG}{tb:TS}{D:c4x}{σ:St}{H:Hp}
def sForBk (K:A0a)(g:TG)(tb:TS)(D:c4x)(σ:St):List V->Hp->Prop:=fun vs H1=>∃a xs,vs=[.ref a]/\SqL K H1 a xs/\∃W:Nat->Nat->St->Hp->Prop,(∃m,W 0 m σ H1)/\∀i m σ H,W i m σ H->
 ((ItB K a xs.length).stop i H/\D.nx σ H)\/((ItB K a xs.length).go i H/\∃N:St->Hp->Prop,(∀σ' H',N σ' H'->∃m',m'<m/\W (i+1) m' σ' H')/\∀x H',(ItB K a xs.length).yld i H x H'->g x σ H' fun σ2 H2=>tb { D with nx:=N,ct:=N,bk:=D.nx } σ2 H2)
theorem st_bkE {ta:TA}(h:ta σ H (sForBk K g tb D σ)):tFor (iRev K ta) g tb D σ H:=h
theorem st_bkAt (s:SqL K H a xs)(Pv:Nat->St->Hp->Prop)(h0:Pv 0 σ H)(hl:∀i σ H,i<=xs.length->Pv i σ H->SqL K H a xs)
  (hs:∀i x σ H,i<xs.length->xs.reverse[i]? = some x->Pv i σ H->g x σ H fun σ2 H2=>tb { D with nx:=Pv (i+1),ct:=Pv (i+1),bk:=D.nx } σ2 H2) (hd:∀σ H,Pv xs.length σ H->D.nx σ H):sForBk K g tb D σ [.ref a] H:=c8e (ta:=tC (.ref a)) (fun P h=>h) s Pv h0 hl hs hd
end
theorem cut_init (xs:List V)(x:V):c7g (xs++[x]) none (some (-1))=xs:=by
 unfold c7g;rw[HT.sIx_none]
 have e:HT.sIx (xs++[x]).length (xs++[x]).length (some (-1))=xs.length:=by
  unfold HT.sIx;simp
  try omega
 rw[e];simp
end L2
namespace Tw
open PySem L2
variable {rs:List Row}{u v w:Row}
def tog (u v:Row):Row:=⟨0,u.x^^^v.x,u.z^^^v.z⟩
theorem sn_tog (n:Nat)(u v:Row):sn n (tog u v)=sn n u^^^sn n v:=sn_add (r:=u) (s:=v) (t:=tog u v) ⟨rfl,rfl⟩
theorem tog_ok {n:Nat}(hu:u.Ok n)(hv:v.Ok n):(tog u v).Ok n:=⟨A1v _,A1p hu.x hv.x,A1p hu.z hv.z⟩
def Hm (n:Nat)(rs:List Row)(u v:Row):Prop:=Spn (rs.map (sn n)) (sn n (tog u v))
theorem Hm.via {n:Nat}{f:Row}(a:Hm n rs f u)(b:Hm n rs f v):Hm n rs u v:=by
 unfold Hm at *
 rw[sn_tog] at *
 have:=a.xor b
 rwa [A4y (sn n f),A1m,<- A1m (sn n f) (sn n f),A1q,A2d] at this
def Prt (n:Nat)(rs:List Row)(ws:List Row):Prop:=∃u∈ws,∃v∈ws,(rs.map fun r=>(a2v r u).toNat)=(rs.map fun r=>(a2v r v).toNat)/\¬Hm n rs u v
theorem across {n f:Nat}(ok:∀r∈rs,r.Ok n)(kw:w.Ok n)(hf:f<2^(2*n))(h1:∀u∈rs.map (fun r=>sn n ⟨0,r.z,r.x⟩),pb (f&&&u)=false)(h2:pb (f&&&sn n ⟨0,w.z,w.x⟩)=true) :
  (⟨0,f%2^n,f/2^n⟩:Row).Ok n/\(∀r∈rs,a2v r ⟨0,f%2^n,f/2^n⟩=false)/\a2v w ⟨0,f%2^n,f/2^n⟩=true:=by
 have hz:f/2^n<2^n:=by
  rw[A4z (A0x n),<- A6c];exact A0c hf (A0g (by decide) (by omega))
 have o:(⟨0,f%2^n,f/2^n⟩:Row).Ok n:=⟨A1v _,A7u _ (A0x n),hz⟩;have e:sn n ⟨0,f%2^n,f/2^n⟩=f:=(c1u n f).symm;refine⟨o,fun r hr=>?_,?_⟩
 ·rw[<- symp_pb (ok r hr) o,e,A0w];exact h1 _ (A0r.2 ⟨r,hr,rfl⟩)
 ·rw[<- symp_pb kw o,e,A0w];exact h2
theorem sw_row {n:Nat}{r:Row}(ok:r.Ok n):sw n (sn n r)=sn n ⟨0,r.z,r.x⟩:=by
 have h1:sn n r%2^n=r.x/\sn n r/2^n=r.z:=by
  have e:sn n r=r.x+r.z*2^n:=by
   unfold sn;have h1:=c6f (b:=r.z) ok.x;have h2:=b0n r.x (r.z*2^n);have h3:=b7q r.x (r.z*2^n);omega
  rw[e,Nat.add_mul_mod_self_right,A8b ok.x,Nat.add_mul_div_right _ _ (A0x n),Nat.div_eq_of_lt ok.x,Nat.zero_add];exact⟨rfl,rfl⟩
 unfold sw;rw[h1.1,h1.2];rfl
theorem sw_xor (n a b:Nat):sw n (a^^^b)=sw n a^^^sw n b:=by
 unfold sw;rw[Nat.xor_div_two_pow,Nat.xor_mod_two_pow,c8f];exact x4 _ _ _ _
theorem sw_sw {n a:Nat}(h:a<2^(2*n)):sw n (sw n a)=a:=by
 have o:(⟨0,a%2^n,a/2^n⟩:Row).Ok n:=by
  refine⟨A1v _,A7u _ (A0x n),?_⟩;show a/2^n<2^n;rw[A4z (A0x n),<- A6c];exact A0c h (A0g (by decide) (by omega))
 have o2:(⟨0,a/2^n,a%2^n⟩:Row).Ok n:=⟨A1v _,o.z,o.x⟩;have e:sn n ⟨0,a%2^n,a/2^n⟩=a:=(c1u n a).symm;have h1:=sw_row o;rw[e] at h1;have h2:=sw_row o2;have e3:sw n a=sn n ⟨0,a/2^n,a%2^n⟩:=h1;rw[e3,h2];exact e
theorem spn_sw {n:Nat}(ok:∀r∈rs,r.Ok n)(kw:w.Ok n)(h:Spn (rs.map fun r=>sn n ⟨0,r.z,r.x⟩) (sn n ⟨0,w.z,w.x⟩)):Spn (rs.map (sn n)) (sn n w):=by
 obtain⟨m,hm,e⟩:=h;refine⟨m,by rw[A0b] at hm ⊢;exact hm,?_⟩
 have lin:∀(l:List Nat) (m:Nat),sw n (a2e l m)=a2e (l.map (sw n)) m:=by
  intro l
  induction l with
  | nil=>intro m;show sw n 0=0;unfold sw;simp
  | cons u l ih=>
   intro m;show sw n ((if m.testBit 0=true then u else 0)^^^a2e l (m/2))=(if m.testBit 0=true then sw n u else 0)^^^a2e (l.map (sw n)) (m/2);rw[sw_xor,ih]
   split
   ·rfl
   ·rw[show sw n 0=0 by unfold sw;simp]
 have e1:rs.map (sn n)=(rs.map fun r=>sn n ⟨0,r.z,r.x⟩).map (sw n):=by
  rw[A3u];refine A5n fun r hr=>?_;show _=sw n (sn n ⟨0,r.z,r.x⟩);rw[<- sw_row (ok r hr),sw_sw (sn_lt (ok r hr))]
 rw[e1,<- lin,e,<- sw_row kw,sw_sw (sn_lt kw)]
theorem odl_lt {N f:Nat}(hf:f<2^N):∀{ss:List Sm},(∀s∈ss,s.j<N)->odl f ss<2^N
 | [],_=>hf
 | s::r,h=>by
  have ih:=odl_lt hf (ss:=r) fun t ht=>h t (A0e _ ht);rw[odl]
  split
  ·exact A1p ih (A1w (by decide) (h s A0d))
  ·exact ih
end Tw
namespace L2
open PySem PySem.Spec PyProof.Rows
section
variable {X:Cx}
end
end L2
namespace Tw
open PySem PySem.Spec PyProof.Rows L2
section
variable {X:Cx}
open Classical in
end
end Tw
namespace Tw
open PySem L2
def sy (n u v:Nat):Bool:=pb (sw n u&&&v)
def c4b:Nat->(Nat->Bool)->Bool
 | 0,_=>false
 | n+1,f=>f 0 ^^ c4b n fun k=>f (k+1)
theorem xorF_xor:∀(n:Nat) (f g:Nat->Bool),c4b n (fun k=>f k ^^ g k)=(c4b n f ^^ c4b n g)
 | 0,_,_=>rfl
 | n+1,f,g=>by
  rw[c4b,c4b,c4b,xorF_xor n];cases f 0<;>cases g 0<;>cases c4b n (fun k=>f (k+1))<;>cases c4b n (fun k=>g (k+1))<;>rfl
theorem d1y:∀{n:Nat} {f g:Nat->Bool},(∀k,k<n->f k=g k)->c4b n f=c4b n g
 | 0,_,_,_=>rfl
 | n+1,f,g,h=>by rw[c4b,c4b,h 0 (Nat.succ_pos n),d1y fun k hk=>h (k+1) (Nat.succ_lt_succ hk)]
theorem pb_xorF:∀{n u:Nat},u<2^n->pb u=c4b n fun k=>u.testBit k
 | 0,u,h=>by
  have:u=0:=by
   have:(2:Nat)^0=1:=rfl;omega
  subst this;exact b6t
 | n+1,u,h=>by
  have h2:u/2<2^n:=by rw[A2s] at h;omega
  have ih:=pb_xorF h2;rw[c4b];have e1:(fun k=>u.testBit (k+1))=fun k=>(u/2).testBit k:=funext fun k=>A5q u k;rw[e1,<- ih];unfold pb;rw[b0c u,A2j]
  rcases (show u%2=0\/u%2=1 by omega) with c|c<;>rw[c]
  ·simp
  ·by_cases d:pop (u/2)%2=1
   ·rw[decide_eq_true d,decide_eq_false (by omega)];rfl
   ·rw[decide_eq_false d,decide_eq_true (by omega)];rfl
def loc (x z x' z':Bool):Bool:=(x&&z') ^^ (z&&x')
theorem symp_xorF {n:Nat}{r s:Row}(hr:r.Ok n)(hs:s.Ok n):a2v r s=c4b n fun k=>loc (r.x.testBit k) (r.z.testBit k) (s.x.testBit k) (s.z.testBit k):=by
 unfold a2v;rw[pb_xorF (n:=n) (A2m A4u hr.x),pb_xorF (n:=n) (A2m A4u hr.z),<- xorF_xor];exact d1y fun k _=>by rw[A1k,A1k];rfl
def bsum (b:Nat->Bool):Nat->Nat
 | 0=>0
 | k+1=>bsum b k+(b k).toNat*2^k
theorem c9r:∀(m:Nat) (f:Nat->Bool),c4b (m+1) f=(c4b m f ^^ f m)
 | 0,f=>by rw[c4b,c4b];cases f 0<;>rfl
 | m+1,f=>by rw[c4b,c9r m,<- Bool.xor_assoc,c4b]
def one1 (k:Nat)(a b:Bool):Row:=⟨0,a.toNat*2^k,b.toNat*2^k⟩
theorem mem_W1 {n:Nat}(hn:0<n){u:Row}:u∈Wup n 1 ↔ ∃k,k<n/\∃a b,u=one1 k a b:=by
 rw[Wup_LW (by decide)];show u∈[(⟨0,0,0⟩:Row)]++b1t n ↔ _;rw[A0p,A0h,b0m]
 constructor
 ·rintro (rfl|⟨k,hk,h⟩)
  ·exact⟨0,hn,false,false,by unfold one1;simp⟩
  ·refine⟨k,hk,?_⟩;unfold l3 at h;simp only[A1n,A4j,or_false] at h
   rcases h with rfl|rfl|rfl
   ·exact⟨true,false,by unfold one1;simp⟩
   ·exact⟨false,true,by unfold one1;simp⟩
   ·exact⟨true,true,by unfold one1;simp⟩
 ·rintro⟨k,hk,a,b,rfl⟩;cases a<;>cases b
  ·exact .inl (by unfold one1;simp)
  ·exact .inr ⟨k,hk,by unfold one1 l3;simp⟩
  ·exact .inr ⟨k,hk,by unfold one1 l3;simp⟩
  ·exact .inr ⟨k,hk,by unfold one1 l3;simp⟩
end Tw
namespace L2
open PySem PySem.Spec PyProof.Rows
section
variable {X:Cx}
end
end L2
namespace Tw
section
variable {i j n b:Nat}{r:Row}
end
end Tw
namespace Tw
open PySem L2
abbrev Wh:=List (Nat×Int×Int)
def wat (ws:Wh)(b:Nat):Option (Int×Int):=(ws.find? fun e=>decide (e.1=b)).map (·.2)
section
variable {K:A0a}{H H':Hp}{ws:Wh}{kvs:List (Key×V)}
def wd (ws:Wh):Key->PyData
 | .inl i=>pairD ((wat ws i.toNat).getD (0,0))
 | .inr _=>pairD (0,0)
end
end Tw
namespace L2
open PySem
section
variable {K:A0a}{H:Hp}{D:c4x}{σ:St}{g:TG}{tb:TS}{a:Addr}{xs:List V}
end
end L2
namespace PySem
open Sem (wp)
namespace F
end F
section
variable {prog:Program}{w:World}{K:Type} [DecidableEq K]{knd:KeyKind prog w K}{A:Around}{R:Result->Shared->Prop}
end
end PySem
namespace L2
open PySem PySem.Spec PyProof.Rows
section
variable {X:Cx}
end
end L2
namespace Tw
open PySem L2
def crs (r q:Row):Nat:=(r.x&&&q.z)^^^(r.z&&&q.x)
section
variable {K:A0a}{H:Hp}{Q:VK}{a b:Addr}{kvs kvs2:List (Key×V)}{ws:Wh}
end
theorem take_succV {α:Type}{l:List α}{i:Nat}{x:α}(h:l[i]? = some x):l.take (i+1)=l.take i++[x]:=by rw[A9u,h];rfl
end Tw
namespace L2
open PySem PySem.Spec PyProof.Rows
theorem pr_map {α β:Type}{F G:α->β->Prop}(k:∀a b,F a b->G a b):∀{as:List α} {bs:List β},Paired F as bs->Paired G as bs
 | _,_,.nil=>.nil
 | _,_,.cons h t=>.cons (k _ _ h) (pr_map k t)
end L2
namespace Tw
open PySem L2
end Tw
namespace L2
open PySem PySem.Spec PyProof.Rows
section
variable {P:Program}{w:World}{H:Hp}{h:Heap}{a:Addr}{o:Obj}
end
structure Lam where
 qual:Str
 params:Arguments
 body:Expr
 scope:Scope
 pos:Pos
section
variable {X:Cx}{pins:List (Addr×Obj)}{σ:St}{H:Hp}{s:Shared}{T c:Addr}{l:Lam}{cl:List (Str×Addr)}
end
section
variable {X:Cx}{j k:Nat}{ps:List Str}{sp:Sp}{x:Str}{p pos:Pos}{e:Expr}{es:List Expr}{t:TA}{cl:List (Str×Addr)}
end
section
variable {P:Program}{w:World}{K:A0a}{mg:Str->Option Value}{base:Heap}
end
section
variable {P:Program}{w:World}{K:A0a}{mg:Str->Option Value}{base:Heap}
end
structure FunD (K:A0a)(x qual:Str)(st:Stmt)(f:Addr)(fd:FuncData)(d:Value):Prop where
 ex:∃(oc:Value) (od:Option Addr) (kV doc pm:Value) (an:Option Addr) (cdv ct:Value) (osl:Array (Option Value)) (T:Addr) (o2:Obj) (n2:Nat),
  fd=A3s x qual (a9f st) (a6r st) (a0g st) (.ref T) kV doc pm an cdv ct/\K.lookup f=some ⟨oc,od,.func fd,osl⟩/\A5r K cdv qual=true/\K.lookup T=some o2/\o2.data=.seq #[d] n2
 kp:A3f K (.ref f)=true
section
variable {P:Program}{w:World}{K:A0a}{mg:Str->Option Value}{base:Heap}
theorem FunD.binds {x qual:Str}{st:Stmt}{f:Addr}{fd:FuncData}{d:Value}{ps:List Str}{ds:List Value}(F:FunD K x qual st f fd d)
  (h:∀(T:Addr) (kV doc pm:Value) (an:Option Addr) (cdv ct:Value) (us:List Value),(us++ds).length=ps.length->∃k:Option (Array Value)->Sem (List (Str×Value)),bindArgs (A3s x qual (a9f st) (a6r st) (a0g st) (.ref T) kV doc pm an cdv ct) ⟨us,[]⟩=seqItems? (.ref T) >>= k/\k (some #[d])=pure (ps.zip (us++ds))):c1m K fd ps ds:=by
 obtain⟨oc,od,kV,doc,pm,an,cdv,ct,osl,T,o2,n2,rfl,lk,hcd,l2,e2⟩:=F.ex;intro s us KX hl;obtain⟨k,e1,e3⟩:=h T kV doc pm an cdv ct us hl;exact .of_defaults rfl (KX _ _ l2) e2 e1 e3
theorem fund_mk {x qual:Str}{st:Stmt}{f T:Addr}{oc oc2 d:Value}{od an od2:Option Addr}{osl sl2:Array (Option Value)}{kV doc pm cdv ct:Value}{n2:Nat}(l:K.lookup f=some ⟨oc,od,.func (A3s x qual (a9f st) (a6r st) (a0g st) (.ref T) kV doc pm an cdv ct),osl⟩)
  (c:A5r K cdv qual=true) (k:A3f K (.ref f)=true) (t:K.lookup T=some ⟨oc2,od2,.seq #[d] n2,sl2⟩):FunD K x qual st f (A3s x qual (a9f st) (a6r st) (a0g st) (.ref T) kV doc pm an cdv ct) d:=⟨⟨oc,od,kV,doc,pm,an,cdv,ct,osl,T,_,n2,rfl,l,c,t,rfl⟩,k⟩
end
structure MCalN (P:Program)(w:World)(K:A0a)(mg:Str->Option Value)(base:Heap)(CX:CXT)(k:Nat)(C:Addr)(m:Str)(ps:List Str)(sp:Sp):Prop where
 cl:Cls K C
 ex:∃f fd,Meth K C m f/\a2n P w K mg base CX k f fd ps sp/\c1m K fd ps [.none]
def tMethN {ι:Type}(CD:ι->Addr)(spm:ι->Sp)(m:Str)(E:XK)(ta:TE)(t:TA):TE:=fun σ H Q=>ta σ H fun x H1=>∃a d dx fs,x=.ref a/\H1 a=some (.ins (CD d) dx fs)/\fs.lookup m=none/\t σ H1 fun vs H2=>spm d (x::vs++[.non]) H2 Q E
section
variable {X:Cx}{CX:CXT}{j k:Nat}{ι:Type}{CD:ι->Addr}{spm:ι->Sp}{ps:List Str}{E:XK}{m:Str}{pos apos:Pos}{e o:Expr}{es:List Expr}{ta:TE}{t:TA}
theorem pe_mdN {pl:Sem Bool}(hM:∀d,MCalN X.prog X.w X.K X.mg X.base CX k (CD d) m ps (spm d))(hr:b8b j X.A)(hx:b5c CX X E)(he:PE X o ta)(ha:PA X (e::es) t)(hk:k<=j:=by decide)
  (hst:starEach (e::es) X.env=(false,eval e X.env)::starEach es X.env:=by rfl) (hpl:(backTo pos (starEach es X.env)).any (·.1)=false:=by rfl)
  (ht:eval (.Call (.Attribute o m apos) (e::es) [] pos) X.env=(do
   let ov <- eval o X.env
   standAt apos.atName
   let (f,first) <- holding [ov] (getMethod ov m pl)
   callWith pos f first (backTo pos (starEach (e::es) X.env)) (backToKw pos (keywordEach [] X.env))):=by rfl) :
  PE X (.Call (.Attribute o m apos) (e::es) [] pos) (tMethN CD spm m E ta t):=by
 intro pins s σ H Q I h;refine A6a (pl:=pl) (thn (he pins s σ H _ I h) fun u s1 ⟨x,H1,I1,rx,a,d,dx,fs,ex,ea,l,q⟩=>?_) ht;subst ex;obtain rfl:u=A3b a:=rx;have M:=hM d;obtain⟨f,fd,hm,F,b⟩:=M.ex;refine c2w I1 ea M.cl hm l ?_;refine A4w (first:=[.ref a]) (h₀:=X.base) I.ok.mod.kin hm.kp (thn (ha pos pins s1 σ H1 _ I1 q) fun us s2 ⟨vs,H2,I2,r,q2⟩=>⟨I2.kIn,?_⟩) hst hpl;exact run_fn (us:=.ref a::us) (vs:=.ref a::vs) (dvs:=[.non]) F (hr.mono hk) b (.cons rfl .nil) hx I2 (.cons rfl r) q2
theorem st_mdN {σ:St}{H:Hp}{Q:VK}(h:ta σ H fun x H1=>rMeth CD m x H1 fun d=>t σ H1 fun vs H2=>spm d (x::vs++[.non]) H2 Q E):tMethN CD spm m E ta t σ H Q:=h
end
end L2
namespace Tw
open PySem L2
structure d2m (n:Nat)(rs:List Row):Prop where
 len:rs.length=n
 ok:∀r∈rs,r.Ok n
 com:∀r∈rs,∀s∈rs,a2v r s=false
 ind:Ind (rs.map (sn n))
theorem xsel_mapK {f:Nat->Nat}(h0:f 0=0)(hx:∀a b,f (a^^^b)=f a^^^f b):∀(l:List Nat) (m:Nat),a2e (l.map f) m=f (a2e l m)
 | [],m=>by show (0:Nat)=f 0;exact h0.symm
 | v::l,m=>by
  show (if m.testBit 0=true then f v else 0)^^^a2e (l.map f) (m/2)=f ((if m.testBit 0=true then v else 0)^^^a2e l (m/2));rw[hx,xsel_mapK h0 hx l]
  split
  ·rfl
  ·rw[h0]
theorem ind_map {N:Nat}{f:Nat->Nat}(h0:f 0=0)(hx:∀a b,f (a^^^b)=f a^^^f b)(hi:∀a b,a<2^N->b<2^N->f a=f b->a=b):∀{l:List Nat},(∀u∈l,u<2^N)->Ind l->Ind (l.map f)
 | [],_,_=>trivial
 | b::l,hl,⟨h1,h2⟩=>by
  refine⟨fun⟨m,hm,e⟩=>h1 ⟨m,by rw[A0b] at hm;exact hm,?_⟩,ind_map h0 hx hi (fun u hu=>hl u (A0e _ hu)) h2⟩;rw[xsel_mapK h0 hx] at e;exact hi _ _ (c2y m fun u hu=>hl u (A0e _ hu)) (hl b A0d) e
def rn (n u:Nat):Row:=⟨0,u%2^n,u/2^n⟩
theorem rn_xor (n a b:Nat):Add3 (rn n a) (rn n b) (rn n (a^^^b)):=⟨Nat.xor_mod_two_pow,by
 show (a^^^b)/2^n=a/2^n^^^b/2^n
 rw[<- A6r,<- A6r,<- A6r,Nat.shiftRight_xor_distrib]⟩
theorem sn_rn (n u:Nat):sn n (rn n u)=u:=(c1u n u).symm
theorem rn_sn {n:Nat}{r:Row}(ok:r.Ok n):(rn n (sn n r)).x=r.x/\(rn n (sn n r)).z=r.z:=by
 have h:(rn n (sn n r)).x<2^n:=A7u _ (A0x n);exact c7r h ok.x (sn_rn n (sn n r))
theorem rn_ok {n u:Nat}(h:u<2^(2*n)):(rn n u).Ok n:=⟨A1v _,A7u _ (A0x n),by
 show u/2^n<2^n;rw[A4z (A0x n),<- A6c]
 rw[show n+n=2*n by omega];exact h⟩
theorem sn_add3 {n:Nat}{r s t:Row}(h:Add3 r s t):sn n t=sn n r^^^sn n s:=by
 unfold sn;rw[h.1,h.2,c8f,x4]
def aN (d:Dd)(n u:Nat):Nat:=sn n (acts [d] (rn n u))
theorem d2m.act {n:Nat}{rs:List Row}(h:d2m n rs){d:Dd}(ok:d.Ok n):d2m n (rs.map (act d)):=by
 have hd:∀e∈[d],e.Ok n:=fun e he=>by rw[A0h.1 he];exact ok
 refine⟨by rw[A0b];exact h.len,fun r hr=>?_,fun r hr s hs=>?_,?_⟩
 ·obtain⟨u,hu,rfl⟩:=A0r.1 hr;exact act_ok (h.ok u hu) ok
 ·obtain⟨u,hu,rfl⟩:=A0r.1 hr;obtain⟨t,ht,rfl⟩:=A0r.1 hs;rw[d7b ok];exact h.com u hu t ht
 ·have e:(rs.map (Tw.act d)).map (sn n)=(rs.map (sn n)).map (aN d n):=by
   rw[A3u,A3u];refine A5n fun r hr=>?_;show sn n (acts [d] r)=sn n (acts [d] (rn n (sn n r)));have a:=b7y (ds:=[d]) (rn_sn (h.ok r hr)).1 (rn_sn (h.ok r hr)).2;generalize rn n (sn n r)=t at a ⊢;unfold sn;rw[a.1,a.2]
  rw[e];have hx:∀a b,aN d n (a^^^b)=aN d n a^^^aN d n b:=fun a b=>sn_add3 (b4t (ds:=[d]) (rn_xor n a b))
  have h0:aN d n 0=0:=by
   have:=hx 0 0;rw[A1q,A1q] at this;exact this
  refine ind_map (N:=2*n) h0 hx (fun a b ha hb e=>?_) (fun u hu=>?_) h.ind
  ·have ka:=b9a (ds:=[d]) (rn_ok ha) hd;have kb:=b9a (ds:=[d]) (rn_ok hb) hd;obtain⟨e1,e2⟩:=c7r ka.x kb.x e;have g:=b7y (ds:=undo [d]) e1 e2;rw[a6a hd,a6a hd] at g;rw[<- sn_rn n a,<- sn_rn n b];unfold sn;rw[g.1,g.2]
  ·obtain⟨r,hr,rfl⟩:=A0r.1 hu;exact sn_lt (h.ok r hr)
theorem d2m.start {n:Nat}(hn:n<=40):d2m n ((A3a n).map fun k=>im [] (2^k)):=by
 have p:=Mx.plain (ds:=[]) hn (fun _ h=>absurd h A4j) (A0k n);have w:=Wl.plain (ds:=[]) hn (fun _ h=>absurd h A4j);refine⟨w.len,p.ok,fun r hr s hs=>?_,?_⟩
 ·obtain⟨a,_,rfl⟩:=A0r.1 hr;obtain⟨b,_,rfl⟩:=A0r.1 hs;exact d4a (n:=n) (fun _ h=>absurd h A4j) _ _
 ·have key:∀k,k<=n->Ind (((A3a k).map fun k=>im [] (2^k)).map (sn n)):=by
   intro k
   induction k with
   | zero=>intro _;exact trivial
   | succ k ih=>
    intro hk;rw[A7h,A0f,A0f];refine d5y (ih (by omega)) fun hq9=>?_;obtain⟨m,_,e⟩:=hq9
    have hb:(a2e (((A3a k).map fun k=>im [] (2^k)).map (sn n)) m).testBit (k+n)=false:=by
     refine b9z m fun v hv=>?_;obtain⟨r,hr,rfl⟩:=A0r.1 hv;obtain⟨j,hj,rfl⟩:=A0r.1 hr;have hj:=A6q.1 hj;show ((0:Nat)^^^2^j*2^n).testBit (k+n)=false;rw[A2d,<- A6c,A9n (by omega)]
    rw[e] at hb;have hb2:((0:Nat)^^^2^k*2^n).testBit (k+n)=false:=hb;rw[A2d,<- A6c,A4g] at hb2;cases hb2
  exact key n (A0k n)
end Tw
namespace L2
open PySem PySem.Spec PyProof.Rows
section
variable {X:Cx}{pins:List (Addr×Obj)}{σ:St}{H:Hp}{s:Shared}{a b:Addr}{kvs kvs2:List (Key×V)}{f g:Key->PyData}
end
section
variable {X:Cx}
end
end L2
namespace Tw
open PySem L2
def gm (p q:Int×Int):Int×Int:=(p.1*q.1-p.2*q.2,p.1*q.2+p.2*q.1)
end Tw
namespace L2
open PySem PySem.Spec PyProof.Rows
section
variable {prog:Program}{w:World}{A:Around}{E:Value->Shared->Prop}{s:Shared}{K:Type} [DecidableEq K]{knd:KeyKind prog w K}{d:Addr}{kvs:List (K×Value)}{ep:Nat}
end
section
variable {X:Cx}
end
end L2
namespace Tw
open PySem L2
section
variable {K:A0a}{H:Hp}{Q:VK}{ws us:Wh}{kvs:List (Key×V)}{a b:Addr}
end
end Tw
namespace L2
open PySem PySem.Spec PyProof.Rows
variable {K:A0a}{H:Hp}{σ:St}{te:TE}{tt:TT}{Q:VK}
def sCompK (K:A0a)(tt:TT)(te:TE)(σ:St)(Q:VK):V->Hp->Prop:=fun x H=>∃a,x=.ref a/\(∃xs,SqL K H a xs)/\∃W:Nat->Nat->List V->Hp->Prop,(∃m,W 0 m [] H)/\∀i m ys H,W i m ys H->((Itl K a).stop i H/\∀p,H p=none->Q (.ref p) (upd H p (.lst ys)))\/
   ((Itl K a).go i H/\ys.length<sizeLine/\∃N:List V->Hp->Prop,(∀ys' H',N ys' H'->∃m',m'<m/\W (i+1) m' ys' H')/\
    ∀x H',(Itl K a).yld i H x H'->tt (some x::σ) H' fun b H2=>if b=true then te (some x::σ) H2 fun y H3=>N (ys++[y]) H3 else N ys H2)
theorem st_cqE {tl:TE}(h:tl σ H (sCompK K tt te σ Q)):d0t (iList K tl) tt te σ H Q:=h
theorem st_cqAt {a:Addr}{xs:List V}(s:SqL K H a xs)(Pv:Nat->List V->Hp->Prop)(hn:xs.length<=1000)(h0:Pv 0 [] H)(hl:∀i ys H,Pv i ys H->ys.length<=i)(hk:∀i ys H,Pv i ys H->SqL K H a xs)
  (hs:∀i x ys H,xs[i]? = some x->Pv i ys H->tt (some x::σ) H fun b H2=>if b=true then te (some x::σ) H2 fun y H3=>Pv (i+1) (ys++[y]) H3 else Pv (i+1) ys H2)
  (hd:∀ys H,Pv xs.length ys H->∀p,H p=none->Q (.ref p) (upd H p (.lst ys))):sCompK K tt te σ Q (.ref a) H:=⟨a,rfl,⟨xs,s⟩,d6h Pv hn h0 hl hk hs hd⟩
end L2
set_option maxHeartbeats 30000000
namespace L2
open PySem
theorem a9w:bootBuiltins "all" = some (.builtin "all"):=by decide +kernel
end L2
namespace L2
open PySem PySem.Spec PyProof.Rows
theorem FunD.ok {P:Program}{w:World}{K:A0a}{mg:Str->Option Value}{base:Heap}{x qual:Str}{st:Stmt}{f:Addr}{fd:FuncData}{d:Value}{N ps:List Str}{k:Nat}{sp:Sp}(F:FunD K x qual st f fd d)(S:a0n N ps (a0g st))(len:∀vs H Q E,sp vs H Q E->vs.length=ps.length)
  (hb:∀(cdv:Value) (A:Around) (outer:List Env) (s:Shared) (H:Hp) (vs:List V) (Q:VK) (E:XK),b8b k (A.deeper (envOfC qual (a0g st) s.heap.objs.size f cdv))->sp vs H Q E->∃t,PSs (cxOf CX0 P w K mg base N qual (a0g st) f cdv A outer s H E).nox (a6r st) t/\t { nx:=fun _ H'=>Q .non H',rt:=Q } (start N vs) H):a2n P w K mg base CX0 (k+1) f fd ps sp:=by
 obtain⟨oc,od,kV,doc,pm,an,cdv,ct,osl,T,o2,n2,rfl,lk,hcd,_⟩:=F.ex;exact fn_of lk hcd S len fun A outer s H vs Q E hr hsp=>(hb cdv A outer s H vs Q E hr hsp).imp fun _ h=>⟨h.1.nox,h.2⟩
end L2
namespace Tw
open PySem L2
variable {K:A0a}{a b l p pt t:Addr}{CX:CXT}{d:Dd}{fd:FuncData}{o:HO}{base h:Heap}{G H H' H0 H2:Hp}{as bs cs:List Addr}{ds es:List Dd}{ks:List Nat}{L rs:List Row}{ss:List Sm}{ps:List Str}{us:List Value}{i j k m s x:Nat}{P:Program}{f r u:Row}{sp:Sp}{w:World}
local macro_rules|`(tactic| fail"la")=>`(tactic| first|(with_reducible assumption)|exact a0d|(with_reducible refine' upd_get ?s1 ?s2;(case s1=>with_reducible assumption);(case s2=>fail"la")))
local macro_rules|`(tactic| fail"sq")=>`(tactic| first|(with_reducible assumption)|(with_reducible apply SqT.of a0d)|(with_reducible apply SqL.of a0d)|(with_reducible apply SqT.of;with_reducible assumption)|(with_reducible apply SqL.of;with_reducible assumption)|(with_reducible apply SqT.upd<;>first|(with_reducible assumption)|fail"sq")|(with_reducible apply SqL.upd<;>first|(with_reducible assumption)|fail"sq")|(with_reducible refine' a1n.tup ?s1 ?s2;(case s1=>with_reducible assumption);(case s2=>fail"sq"))|(with_reducible refine' a1n.seq ?s1 ?s2;(case s1=>with_reducible assumption);(case s2=>fail"sq")))
local macro_rules|`(tactic| fail"st")=>`(tactic| dsimp only[cxOf_K])
local macro_rules|`(tactic| fail"sd")=>`(tactic| first|omega|exact pow_pos2 _|exact pow_le100 (by omega)|exact cdivw_pow (by omega)|exact cpow_n (by omega)|exact⟨by decide,by decide⟩|exact .inl ⟨by decide,by decide⟩|decide)
local macro_rules|`(tactic| fail"tx")=>`(tactic| ((with_reducible refine' st_ixT ?s1 ?e1 ?h1);(case s1=>fail"sq");(case e1=>exact rfl)))
local macro_rules|`(tactic| fail"sm")=>`(tactic| first|(with_reducible assumption)|exact a1n.refl _|(with_reducible refine' a1n.updR ?s1 ?s2;(case s2=>with_reducible assumption);(case s1=>fail"sm"))|(with_reducible refine' a1n.trans ?s1 ?s2;(case s2=>with_reducible assumption);(case s1=>fail"sm")))
local macro_rules|`(tactic| fail"h0")=>`(tactic| first|with_reducible refine st_andS ?_|with_reducible refine st_andB ?_|with_reducible refine st_and1 ?_|with_reducible refine st_chain ?_|with_reducible refine st_dnew ?_|with_reducible refine st_yes ?_|((with_reducible refine' st_lstT ?s1 ?h1);(case s1=>fail"sq"))|with_reducible refine st_raise ?_|with_reducible refine st_try ?_|((with_reducible refine st_shlB ?c1 ?h1);(case c1=>omega))|((with_reducible refine' st_in01 ?s1 ?c1 ?h1);(case s1=>fail"sq");(case c1=>omega)))
local macro_rules|`(tactic| fail"h1")=>`(tactic| with_reducible first|refine st_seq ?_|refine st_asg ?_|refine st_gname ?_|refine st_op ?_|refine st_c ?_|refine st_if ?_|refine st_ret ?_|refine st_test ?_|refine st_bl ?_|refine st_cons ?_|refine st_nil ?_|refine st_call ?_|refine st_tup ?_|refine st_and ?_|refine st_or ?_|refine st_not ?_|refine st_andN ?_|refine st_orN ?_|refine st_xorN ?_|refine st_bit ?_|refine d7a ?_|refine st_shrN ?_|refine st_eqi ?_|refine st_nei ?_|refine st_eqb ?_|refine st_neb ?_|refine st_eqs ?_|refine st_nes ?_|refine st_cb ?_|refine st_lst ?_|refine st_next ?_|refine st_retN ?_|refine st_drop ?_|refine st_gcons ?_|refine st_gnil ?_|refine st_un ?_|refine st_u ?_|refine st_tB ?_|refine st_andV ?_|refine st_orV ?_|refine st_notV ?_|refine st_ifE ?_|refine st_part ?_|refine st_int ?_|refine st_nopart ?_|refine st_sl ?_)
local macro_rules|`(tactic| fail"h2")=>`(tactic| first|with_reducible refine st_bm0 ?_|with_reducible refine st_bm ?_|with_reducible refine st_tyI ?_|with_reducible refine st_tyS ?_|with_reducible refine st_bitlen ?_|((with_reducible refine' st_tyL ?s1 ?h1);(case s1=>fail"sq"))|((with_reducible refine' st_lenL ?s1 ?h1);(case s1=>fail"sq"))|((with_reducible refine' st_lenT ?s1 ?h1);(case s1=>fail"sq"))|((with_reducible refine' st_cat ?s1 ?s2 ?s3 ?h1);(case s1=>fail"la");(case s2=>fail"la");(case s3=>first|omega|(simp only[A0j,A0b,A1c,A8r];omega)))|((with_reducible refine' st_append ?s1 ?s2 ?h1);(case s1=>fail"la");(case s2=>first|omega|(simp only[A0j,A0b,A1c,A8r];omega))))
local macro_rules|`(tactic| fail"g0")=>`(tactic| first|((with_reducible refine' st_var ?e1 ?h1);(case e1=>exact rfl))|fail"h0" | fail"h1" | fail"tx" | ((with_reducible refine' c8r ?s1 ?e1 ?h1);(case s1=>fail"sq");(case e1=>first|assumption|exact rfl))|((with_reducible refine st_shl1 ?c1 ?h1);(case c1=>fail"sd"))|((with_reducible refine st_modN ?c1 ?h1);(case c1=>fail"sd");intro _ _ _)|((with_reducible refine st_divN ?c1 ?c2 ?h1);(case c1=>fail"sd");(case c2=>fail"sd"))|((with_reducible refine st_i ?c1 ?h1);(case c1=>fail"sd"))|((with_reducible refine st_size ?c1 ?h1);(case c1=>exact rfl))|((with_reducible refine' st_gtup ?s1 ?e1 ?h1);(case s1=>fail"sq");(case e1=>exact rfl))|((with_reducible refine' st_slL ?s1 ?h1);(case s1=>fail"sq"))|((with_reducible first|refine' rNeD_2 ?s1 ?s2 ?h1|refine' rEqD_2 ?s1 ?s2 ?h1|refine' rNeD_3 ?s1 ?s2 ?h1|refine' rEqD_3 ?s1 ?s2 ?h1);(case s1=>fail"sq");(case s2=>fail"sq"))|((with_reducible refine' d3c ?s1 ?s2 ?h1);(case s1=>first|exact c5j.bl _|exact c5j.int _|exact c5j.str _|exact c5j.non|exact c5j.tup a0d|exact c5j.lst a0d|(with_reducible refine' c5j.tup ?e9;(case e9=>fail"la"))|(with_reducible refine' c5j.lst ?e9;(case e9=>fail"la"))|exact c5j.dK a0d);(case s2=>first|exact b5f|exact b3k|exact kit_NoneType_str|exact kit_NoneType_tuple|exact kit_NoneType_list|exact kit_NoneType_dict|exact c4d|exact c0p|exact kit_bool_str|exact kit_bool_tuple|exact kit_bool_list|exact kit_bool_dict|exact c7d|exact c3y|exact kit_int_str|exact kit_int_tuple|exact kit_int_list|exact kit_int_dict|exact c8z|exact c3s|exact kit_str_str|exact kit_str_tuple|exact kit_str_list|exact kit_str_dict|exact kit_list_int|exact kit_list_bool|exact kit_list_str|exact kit_list_tuple|exact d4m|exact kit_list_dict|exact kit_tuple_int|exact kit_tuple_bool|exact kit_tuple_str|exact b6g|exact kit_tuple_list|exact kit_tuple_dict|exact kit_dict_int|exact kit_dict_bool|exact kit_dict_str|exact kit_dict_tuple|exact kit_dict_list|exact kit_dict_dict))|fail"h2" | with_reducible refine iteT ?_|with_reducible refine iteF ?_|with_reducible refine iteNT ?_|with_reducible refine iteNF ?_)
local macro_rules|`(tactic| fail"go")=>`(tactic| repeat (first|fail"g0" | with_reducible refine(fun (p:Addr) (hp:_=none)=>?_:∀p:Addr,_=none->_)|dsimp only[B1t,B1e]))
local macro_rules|`(tactic| fail"h2")=>`(tactic| with_reducible first|refine st_fld ?_|refine st_put ?_|refine st_make ?_|refine st_md ?_|refine st_intB ?_)
local macro_rules|`(tactic| fail"tx")=>`(tactic| ((with_reducible refine' st_ixT ?s1 ?e1 ?h1);(case s1=>fail"sq");(case e1=>first|exact at0 _ _|exact at1 _ _ _)))
local macro_rules|`(tactic| fail"h0")=>`(tactic| with_reducible first|refine st_xorBB ?_|refine st_xorNB ?_|refine st_sub1B ?_)
local macro_rules|`(tactic| fail"kw1")=>`(tactic| first|((with_reducible refine' ite_t ?e9 ?h9);(case e9=>decide +kernel))|((with_reducible refine' ite_f ?e9 ?h9);(case e9=>decide +kernel)))
local macro_rules|`(tactic| fail"kw")=>`(tactic| (fail"go"; repeat (fail"kw1"; fail"go")))
theorem b9q {A:Around}(hr:b8b k A):A.units+64<cLine:=hr.units
local macro_rules|`(tactic| fail"k5")=>`(tactic| exact⟨rfl,by decide +kernel,rfl,by decide +kernel,by decide +kernel,by decide +kernel,by decide +kernel⟩)
local macro_rules|`(tactic| fail"ln")=>`(tactic| (intro vs H Q E h;repeat first|(have e:=h.1;subst e;rfl)|obtain⟨_,h⟩:=h))
set_option hygiene false in
local macro_rules|`(tactic| fail"fi")=>`(tactic| intro cdv A outer s H vs Q E hr h)
inductive SK where
 | span
inductive MK where
 | sg
inductive CK where
 | code
local macro_rules|`(tactic| fail"sc")=>`(tactic| exact⟨rfl,rfl,rfl,by decide +kernel,rfl,by decide +kernel,by decide +kernel⟩)
def top (i:Nat):Stmt:=PySem.Challenge.pw_twinwires_k92_whole_what_went_wrong_is_p.main.body.getD i (.Pass ⟨0,0,0,0⟩)
abbrev b2p:Stmt:=a1u (top 34) 2
theorem a3p:a0n ["self","number","which","left","lead","total","parts"] ["self","number","which"] (a0g b2p):=by fail"sc"
abbrev b7c:Stmt:=top 7
theorem d4q:a0n ["number"] ["number"] (a0g b7c):=by fail"sc"
abbrev b8z:Stmt:=a1u (top 34) 1
theorem c3x:a0n ["self","number","left"] ["self","number"] (a0g b8z):=by fail"sc"
abbrev b0w:Stmt:=a1u (top 34) 0
theorem b5b:a0n ["self","numbers","number"] ["self","numbers"] (a0g b0w):=by fail"sc"
abbrev s_ones:Stmt:=top 4
theorem c9u:a0n ["number","found","rest"] ["number"] (a0g s_ones):=by fail"sc"
abbrev b3t:Stmt:=top 27
theorem b8u:a0n ["one","other","crossings"] ["one","other"] (a0g b3t):=by fail"sc"
abbrev a6u:Stmt:=top 31
theorem c0m:a0n ["rows"] ["rows"] (a0g a6u):=by fail"sc"
abbrev b9v:Stmt:=a1u (top 34) 4
theorem sc_Span_rank:a0n ["self"] ["self"] (a0g b9v):=by fail"sc"
abbrev b9k:Stmt:=top 35
theorem sc_are_apart:a0n ["numbers"] ["numbers"] (a0g b9k):=by fail"sc"
abbrev a7s:Stmt:=top 3
theorem c2e:a0n ["thing"] ["thing"] (a0g a7s):=by fail"sc"
abbrev s_fits:Stmt:=top 25
theorem sc_fits:a0n ["number","n"] ["number","n"] (a0g s_fits):=by fail"sc"
abbrev b0b:Stmt:=top 23
theorem b8j:a0n ["thing","n"] ["thing","n"] (a0g b0b):=by fail"sc"
abbrev d5e:Stmt:=top 24
theorem sc_is_row:a0n ["thing","n"] ["thing","n"] (a0g d5e):=by fail"sc"
abbrev b2x:Stmt:=top 32
theorem c7e:a0n ["row","n"] ["row","n"] (a0g b2x):=by fail"sc"
abbrev a8w:Stmt:=top 39
theorem b4f:a0n ["n","rows"] ["n","rows"] (a0g a8w):=by fail"sc"
abbrev a7c:Stmt:=a1u (top 38) 0
theorem b5e:a0n ["self","n","rows"] ["self","n","rows"] (a0g a7c):=by fail"sc"
abbrev b0u:Stmt:=a1u (top 34) 3
theorem b5h:a0n ["self","number","left"] ["self","number"] (a0g b0u):=by fail"sc"
abbrev b1b:Stmt:=a1u (top 38) 4
theorem c4s:a0n ["self","wrong"] ["self","wrong"] (a0g b1b):=by fail"sc"
abbrev b1k:Stmt:=a1u (top 38) 3
theorem c0e:a0n ["self","wrong"] ["self","wrong"] (a0g b1k):=by fail"sc"
abbrev a5w:Stmt:=a1u (top 34) 5
theorem a2g:a0n ["self","found","lead","total","parts"] ["self"] (a0g a5w):=by fail"sc"
abbrev a5p:Stmt:=a1u (top 38) 6
theorem a5a:a0n ["self","wrong","rows","number"] ["self","wrong"] (a0g a5p):=by fail"sc"
abbrev a5u:Stmt:=top 42
theorem a2z:a0n ["wrongs","n","told","wrong","k","bit"] ["wrongs","n"] (a0g a5u):=by fail"sc"
abbrev b2u:Stmt:=top 41
theorem a4c:a0n ["many","n","told","heaviest","turn"] ["many","n"] (a0g b2u):=by fail"sc"
abbrev c3h:Stmt:=top 40
theorem sc_together:a0n ["one","other"] ["one","other"] (a0g c3h):=by fail"sc"
abbrev a5h:Stmt:=a1u (top 38) 5
theorem a2s:a0n ["self","many","firsts","wrong","first","both"] ["self","many"] (a0g a5h):=by fail"sc"
abbrev b2s:Stmt:=top 79
theorem c9n:a0n ["_law_script","_law_k"] ["_law_script","_law_k"] (a0g b2s):=by fail"sc"
abbrev b6p:Stmt:=top 92
theorem d5b:a0n ["_law_way"] ["_law_way"] (a0g b6p):=by fail"sc"
abbrev b3x:Stmt:=top 80
theorem a3k:a0n ["_law_cell","_law_many","_law_found","_law_rest","_law_k","_law_number"] ["_law_cell","_law_many"] (a0g b3x):=by fail"sc"
abbrev b9h:Stmt:=top 84
theorem a8z:a0n ["_law_cell","_law_n","_law_x","_law_j","_law_k","_law_kind"] ["_law_cell","_law_n"] (a0g b9h):=by fail"sc"
abbrev b6d:Stmt:=top 93
theorem a7n:a0n ["_law_cells","_law_n","_law_found","_law_cell","_law_words"] ["_law_cells","_law_n"] (a0g b6d):=by fail"sc"
abbrev b2g:Stmt:=top 91
theorem a3s:a0n ["_law_text","_law_xs","_law_zs","_law_k","_law_sign"] ["_law_text"] (a0g b2g):=by fail"sc"
abbrev c8c:Stmt:=top 85
theorem a4a:a0n ["_law_words","_law_row_here","_law_minus","_law_xs","_law_zs","_law_j","_law_x","_law_z","_law_k","_law_a","_law_b"] ["_law_words","_law_row_here"] (a0g c8c):=by fail"sc"
abbrev b4m:Stmt:=top 86
theorem b2e:a0n ["_law_work","_law_row_here","_law_words"] ["_law_work","_law_row_here"] (a0g b4m):=by fail"sc"
abbrev a6n:Stmt:=top 94
theorem a2p:a0n ["_law_script","_law_cell","_law_n","_law_texts","_law_rows","_law_work","_law_full"] ["_law_script"] (a0g a6n):=by fail"sc"
abbrev b9d:Stmt:=top 81
theorem b2d:a0n ["_law_number","_law_many"] ["_law_number"] (a0g b9d):=by fail"sc"
abbrev b3v:Stmt:=top 82
theorem d1t:a0n ["_law_one","_law_other"] ["_law_one","_law_other"] (a0g b3v):=by fail"sc"
abbrev b4p:Stmt:=top 97
theorem d1g:a0n ["_law_row_here"] ["_law_row_here"] (a0g b4p):=by fail"sc"
abbrev b2a:Stmt:=top 96
theorem c0a:a0n ["_law_rows","_law_wrong_here"] ["_law_rows","_law_wrong_here"] (a0g b2a):=by fail"sc"
abbrev b6k:Stmt:=top 89
theorem d5n:a0n ["_law_found"] ["_law_found"] (a0g b6k):=by fail"sc"
abbrev b7p:Stmt:=top 90
theorem c8t:a0n ["_law_found","_law_n"] ["_law_found","_law_n"] (a0g b7p):=by fail"sc"
abbrev a6c:Stmt:=top 98
theorem a5f:a0n ["_law_rows","_law_found","_law_n","_law_many","_law_one","_law_other","_law_row_here"] ["_law_rows","_law_found","_law_n","_law_many"] (a0g a6c):=by fail"sc"
abbrev b6j:Stmt:=top 95
theorem a4p:a0n ["_law_cell","_law_n","_law_many","_law_xs","_law_zs","_law_x","_law_k"] ["_law_cell","_law_n","_law_many"] (a0g b6j):=by fail"sc"
abbrev a7j:Stmt:=a1u (top 73) 0
theorem b9r:a0n ["self","n","most"] ["self","n","most"] (a0g a7j):=by fail"sc"
abbrev a6f:Stmt:=a1u (top 77) 0
theorem b3e:a0n ["self","n"] ["self","n"] (a0g a6f):=by fail"sc"
abbrev b7f:Stmt:=a1u (top 38) 7
theorem c1d:a0n ["self","signs","many","wrong"] ["self","signs","many"] (a0g b7f):=by fail"sc"
abbrev d4g:Stmt:=top 6
theorem sc_bit_at:a0n ["number","k"] ["number","k"] (a0g d4g):=by fail"sc"
abbrev b4e:Stmt:=a1u (top 54) 1
theorem d0x:a0n ["self","row"] ["self","row"] (a0g b4e):=by fail"sc"
abbrev a9j:Stmt:=a1u (top 55) 1
theorem a5m:a0n ["self","row","k","x","z"] ["self","row"] (a0g a9j):=by fail"sc"
abbrev b4d:Stmt:=a1u (top 56) 1
theorem a8m:a0n ["self","row","k","x","z"] ["self","row"] (a0g b4d):=by fail"sc"
abbrev b4b:Stmt:=a1u (top 57) 1
theorem a5y:a0n ["self","row","k","x","z","unlike"] ["self","row"] (a0g b4b):=by fail"sc"
abbrev b2r:Stmt:=a1u (top 58) 1
theorem a4b:a0n ["self","row","j","k","x","z","alike"] ["self","row"] (a0g b2r):=by fail"sc"
abbrev b9c:Stmt:=top 60
theorem c3w:a0n ["number","j","k","unlike"] ["number","j","k"] (a0g b9c):=by fail"sc"
abbrev b4a:Stmt:=a1u (top 59) 1
theorem b2n:a0n ["self","row","j","k"] ["self","row"] (a0g b4a):=by fail"sc"
abbrev a8f:Stmt:=a1u (top 77) 2
theorem b5x:a0n ["self","deed"] ["self","deed"] (a0g a8f):=by fail"sc"
abbrev b5v:Stmt:=a1u (top 53) 2
theorem d3t:a0n ["self"] ["self"] (a0g b5v):=by fail"sc"
abbrev b0k:Stmt:=a1u (top 53) 0
theorem c5s:a0n ["self","word","undoer","at"] ["self","word","undoer","at"] (a0g b0k):=by fail"sc"
abbrev b0p:Stmt:=a1u (top 59) 0
theorem c5r:a0n ["self","j","k"] ["self","j","k"] (a0g b0p):=by fail"sc"
abbrev b0z:Stmt:=a1u (top 54) 0
theorem c5g:a0n ["self","k"] ["self","k"] (a0g b0z):=by fail"sc"
abbrev a7g:Stmt:=a1u (top 55) 0
theorem b9t:a0n ["self","k"] ["self","k"] (a0g a7g):=by fail"sc"
abbrev b0j:Stmt:=a1u (top 56) 0
theorem c4y:a0n ["self","k"] ["self","k"] (a0g b0j):=by fail"sc"
abbrev b0s:Stmt:=a1u (top 57) 0
theorem c5a:a0n ["self","k"] ["self","k"] (a0g b0s):=by fail"sc"
abbrev a9n:Stmt:=a1u (top 58) 0
theorem c2q:a0n ["self","j","k"] ["self","j","k"] (a0g a9n):=by fail"sc"
abbrev a9y:Stmt:=top 63
theorem b2w:a0n ["words","at"] ["words"] (a0g a9y):=by fail"sc"
abbrev b0q:Stmt:=top 62
theorem b5g:a0n ["words","word"] ["words"] (a0g b0q):=by fail"sc"
abbrev c6p:Stmt:=top 61
theorem d2e:a0n ["words","n","deed"] ["words","n"] (a0g c6p):=by fail"sc"
abbrev b5p:Stmt:=a1u (top 73) 2
theorem d7e:a0n ["self","words"] ["self","words"] (a0g b5p):=by fail"sc"
abbrev b6m:Stmt:=a1u (top 77) 1
theorem d3z:a0n ["self"] ["self"] (a0g b6m):=by fail"sc"
abbrev c6e:Stmt:=top 50
theorem sc_widest:a0n ["rows"] ["rows"] (a0g c6e):=by fail"sc"
abbrev c6m:Stmt:=top 5
theorem sc_places:a0n ["number"] ["number"] (a0g c6m):=by fail"sc"
abbrev b9s:Stmt:=top 29
theorem sc_letters_y:a0n ["row"] ["row"] (a0g b9s):=by fail"sc"
abbrev s_times:Stmt:=top 28
theorem c1s:a0n ["one","other","xs","zs","minuses","quarters"] ["one","other"] (a0g s_times):=by fail"sc"
abbrev b7d:Stmt:=top 30
theorem a9u:a0n ["rows","product","row"] ["rows"] (a0g b7d):=by fail"sc"
abbrev b6n:Stmt:=top 49
theorem a7x:a0n ["rows","row","width","parts","numbers","product"] ["rows","row"] (a0g b6n):=by fail"sc"
abbrev a7e:Stmt:=a1u (top 77) 3
theorem b0v:a0n ["self","row","found"] ["self","row"] (a0g a7e):=by fail"sc"
abbrev b2k:Stmt:=a1u (top 77) 4
theorem c9j:a0n ["self","row","value","staying","crossing","mended"] ["self","row","value"] (a0g b2k):=by fail"sc"
abbrev b9w:Stmt:=top 26
theorem sc_weight_of:a0n ["row"] ["row"] (a0g b9w):=by fail"sc"
abbrev b6c:Stmt:=top 74
theorem d3u:a0n ["row","n"] ["row","n"] (a0g b6c):=by fail"sc"
abbrev b4n:Stmt:=top 75
theorem d1u:a0n ["draw"] ["draw"] (a0g b4n):=by fail"sc"
abbrev a4w:Stmt:=a1u (top 73) 3
theorem b1d:a0n ["self","row","draw","sure","drawn"] ["self","row","draw"] (a0g a4w):=by fail"sc"
abbrev b5r:Stmt:=a1u (top 53) 1
theorem d4u:a0n ["self"] ["self"] (a0g b5r):=by fail"sc"
abbrev a7h:Stmt:=top 45
theorem b2v:a0n ["rows","n"] ["rows","n"] (a0g a7h):=by fail"sc"
abbrev b2f:Stmt:=a1u (top 53) 3
theorem c9x:a0n ["self"] ["self"] (a0g b2f):=by fail"sc"
abbrev c5u:Stmt:=top 67
theorem c0r:a0n ["work","deeds","told","deed"] ["work"] (a0g c5u):=by fail"sc"
abbrev c2z:Stmt:=top 70
theorem sc_at_wires:a0n ["row","wires"] ["row","wires"] (a0g c2z):=by fail"sc"
abbrev d3k:Stmt:=top 66
theorem c0g:a0n ["deeds","row","behind","deed"] ["deeds","row"] (a0g d3k):=by fail"sc"
abbrev b7n:Stmt:=top 65
theorem c8s:a0n ["work","n"] ["work","n"] (a0g b7n):=by fail"sc"
abbrev b0g:Stmt:=top 71
theorem a4u:a0n ["row","at","told","k"] ["row"] (a0g b0g):=by fail"sc"
abbrev s_made:Stmt:=top 69
theorem b9j:a0n ["rows","n","deeds","free","row","left"] ["rows","n"] (a0g s_made):=by fail"sc"
abbrev c3a:Stmt:=top 47
theorem sc_has_sign:a0n ["row","sign","n"] ["row","sign","n"] (a0g c3a):=by fail"sc"
abbrev a8d:Stmt:=top 48
theorem b5n:a0n ["rows","sign","leading","n"] ["rows","sign","leading","n"] (a0g a8d):=by fail"sc"
abbrev c0z:Stmt:=top 46
theorem a6w:a0n ["rows","n","rest","told","sign","leading","first"] ["rows","n"] (a0g c0z):=by fail"sc"
abbrev c2v:Stmt:=top 43
theorem b9f:a0n ["row","told","k"] ["row"] (a0g c2v):=by fail"sc"
abbrev a9c:Stmt:=top 99
theorem a1j:a0n ["_law_code_here","_law_full","_law_rows","_law_n","_law_wrong_here","_law_many","_law_machine","_law_words","_law_due","_law_signs_here","_law_minus","_law_xs","_law_zs","_law_value","_law_sure","_law_guess"] ["_law_code_here","_law_full","_law_rows","_law_n","_law_wrong_here","_law_many"] (a0g a9c):=by fail"sc"
abbrev d3m:Stmt:=top 100
theorem b5s:a0n ["_law_script","_law_n","_law_full","_law_many_rows","_law_rows","_law_many","_law_code_here","_law_found","_law_cell","_law_wrong_here"] ["_law_script"] (a0g d3m):=by fail"sc"
structure Txt_D (K:A0a)(a5s:DK->Addr):Prop where
 cl:∀d,Cls K (a5s d)
 n_word:∀d,a6t K (a5s d) "word"
 n_undoer:∀d,a6t K (a5s d) "undoer"
 n_at:∀d,a6t K (a5s d) "at"
def a5b (a2w a1e a2u a2x a1v a2t:Addr):DK->Addr
 | .over=>a2w
 | .quarter=>a1e
 | .back=>a2u
 | .both=>a2x
 | .wher=>a1v
 | .swap=>a2t
structure Txt_S (K:A0a)(a9v:SK->Addr):Prop where
 cl:∀d,Cls K (a9v d)
 n_sums:∀d,a6t K (a9v d) "sums"
 n_taken:∀d,a6t K (a9v d) "taken"
def a6s (a3m:Addr):SK->Addr
 | .span=>a3m
structure Txt_C (K:A0a)(b5m:CK->Addr):Prop where
 cl:∀d,Cls K (b5m d)
 n_n:∀d,a6t K (b5m d) "n"
 n_checks:∀d,a6t K (b5m d) "checks"
 n_span:∀d,a6t K (b5m d) "span"
def b3j (a4f:Addr):CK->Addr
 | .code=>a4f
structure Txt_M (K:A0a)(b7v:MK->Addr):Prop where
 cl:∀d,Cls K (b7v d)
 n_kept:∀d,a6t K (b7v d) "kept"
 n_n:∀d,a6t K (b7v d) "n"
def a9r (a2j:Addr):MK->Addr
 | .sg=>a2j
def c0s (K:A0a):Sp:=fun vs H Q _=>∃v:Nat,vs=[.int v]/\0<v/\∀j:Nat,v.testBit j=true->(∀i:Nat,i<j->v.testBit i=false)->Q (.int ((2^j:Nat):Int)) H
def Sm3 (H:Hp)(a:Addr)(s:Sm):Prop:=H a=some (.tup [.int ((2^s.j:Nat):Int),.int (s.t:Int),.int (s.p:Int)])
def b3q (l:Addr)(t:Int):List (Str×V):=[("sums",.ref l),("taken",.int t)]
def SnAt (CD:SK->Addr)(H:Hp)(p l:Addr)(vs:List Nat)(ss:List Sm):Prop:=∃dx as,H p=some (.ins (CD .span) dx (b3q l (vs.length:Nat)))/\H l=some (.lst (a1c as))/\a2a (Sm3 H) as ss/\d6x vs ss/\ss.length<=vs.length
def Oth (p l:Addr)(H H':Hp):Prop:=∀c o,c≠p->c≠l->H c=some o->H' c=some o
def b7b (K:A0a)(CD:SK->Addr):Sp:=fun vs H Q _=>∃(p l:Addr) (x w:Nat) (us:List Nat) (ss:List Sm),vs=[.ref p,.int x,.int w]/\SnAt CD H p l us ss/\us.length<=100/\∀q H',a1n H H'->H' q=some (.tup [.int ((red ss x w).1:Int),.int ((red ss x w).2:Int)])->Q (.ref q) H'
abbrev c3v (K:A0a)(CD:SK->Addr)(_:SK):Sp:=b7b K CD
def c3p (K:A0a)(CD:SK->Addr):Sp:=fun vs H Q _=>∃(p l:Addr) (x:Nat) (us:List Nat) (ss:List Sm),vs=[.ref p,.int x]/\SnAt CD H p l us ss/\us.length<=100/\∀H' ss',Oth p l H H'->SnAt CD H' p l (us++[x]) ss'->Stp us ss x ss'->Q .non H'
abbrev sp_S_take (K:A0a)(CD:SK->Addr)(_:SK):Sp:=c3p K CD
def a9d (K:A0a)(CD:SK->Addr):Sp:=fun vs H Q _=>∃(p n dx:Addr) (us:List Nat),vs=[.ref p,.ref n]/\H p=some (.ins (CD .span) dx [])/\H n=some (.lst (vn us))/\us.length<=100/\∀H' l ss,(∀c o,c≠p->H c=some o->H' c=some o)->H l=none->SnAt CD H' p l us ss->(∀us0 x,us=us0++[x]->∃ss0,d6x us0 ss0/\Stp us0 ss0 x ss)->Q .non H'
def sp_ones (K:A0a):Sp:=fun vs H Q _=>∃n:Nat,vs=[.int n]/\Q (.int (pop n:Nat)) H
def b8k (K:A0a):Sp:=fun vs H Q _=>∃(a b:Addr) (r q:Row),vs=[.ref a,.ref b]/\SqT K H a r.V/\SqT K H b q.V/\Q (.bl (decide (pop (crs r q)%2=0))) H
def b5y (K:A0a):Sp:=fun vs H Q _=>∃(a:Addr) (n:Nat) (r:Row),vs=[.ref a,.int n]/\SqT K H a r.V/\r.x<2^n/\r.z<2^40/\n<=40/\Q (.int ((r.x^^^r.z*2^n:Nat):Int)) H
def c3z (K:A0a)(CD:SK->Addr):Sp:=fun vs H Q _=>∃(p l:Addr) (us:List Nat) (ss:List Sm),vs=[.ref p]/\SnAt CD H p l us ss/\us.length<=100/\Q (.int (ss.length:Nat)) H
abbrev sp_S_rank (K:A0a)(CD:SK->Addr)(_:SK):Sp:=c3z K CD
def sp_fits (K:A0a):Sp:=fun vs H Q _=>∃(x:Int) (n:Nat),vs=[.int x,.int n]/\n<=1000/\Q (.bl (decide (0<=x/\x<((2^n:Nat):Int)))) H
def b8t (K:A0a):Sp:=fun vs H Q _=>∃(a:Addr) (n:Nat) (r:Row),vs=[.ref a,.int n]/\H a=some (.tup r.V)/\r.Ok n/\n<=40/\∀H',a1n H H'->Q (.ref a) H'
def sp_is_row (K:A0a):Sp:=fun vs H Q _=>∃(a:Addr) (n:Nat) (r:Row),vs=[.ref a,.int n]/\H a=some (.tup r.V)/\r.Ok n/\n<=40/\∀H',a1n H H'->Q (.bl true) H'
def bsd (rs:List Row)(k:Nat):Bool:=((rs.take k).map fun s=>!a2v (rs.getD k ⟨0,0,0⟩) s).all id
def allB (rs:List Row):Bool:=((A3a rs.length).map (bsd rs)).all id
def c1h (K:A0a):Sp:=fun vs H Q _=>∃(l:Addr) (as:List Addr) (rs:List Row),vs=[.ref l]/\H l=some (.lst (a1c as))/\a2a (Rt K H) as rs/\as.length<=100/\∀H',a1n H H'->Q (.bl (allB rs)) H'
def c4g (K:A0a):Sp:=fun vs H Q _=>∃(l:Addr) (us:List Nat),vs=[.ref l]/\H l=some (.lst (vn us))/\us.length<=100/\∀H' ss,a1n H H'->d6x us ss->ss.length<=us.length->Q (.bl (decide (ss.length=us.length))) H'
def b6f (K:A0a):Sp:=fun vs H Q _=>∃(a:Addr) (k:Nat) (ns:List Int),vs=[.ref a,.int k]/\SqL K H a (ns.map V.int)/\∀c:Int,c=ns.getD k 0->Q (.int c) H
def c7x (n:Nat)(lc s:Addr):List (Str×V):=[("n",.int (n:Int)),("checks",.ref lc),("span",.ref s)]
def CoAt (K:A0a)(CS:SK->Addr)(CC:CK->Addr)(H:Hp)(p:Addr)(n:Nat)(rs:List Row):Prop:=∃dx lc s ls as ss,H p=some (.ins (CC .code) dx (c7x n lc s))/\H lc=some (.lst (a1c as))/\a2a (Rt K H) as rs/\SnAt CS H s ls (rs.map (sn n)) ss
def c1k (K:A0a):Sp:=fun vs H Q _=>∃(n:Nat) (l:Addr) (as:List Addr) (rs:List Row),vs=[.int n,.ref l]/\0<n/\n<=9/\H l=some (.lst (a1c as))/\a2a (Rt K H) as rs/\Cd n rs/\∀H',a1n H H'->Q .non H'
def a9g (K:A0a)(CS:SK->Addr)(CC:CK->Addr):Sp:=fun vs H Q _=>∃(p:Addr) (n:Nat) (l dx:Addr) (as:List Addr) (rs:List Row),vs=[.ref p,.int n,.ref l]/\H p=some (.ins (CC .code) dx [])/\0<n/\n<=9/\H l=some (.lst (a1c as))/\a2a (Rt K H) as rs/\Cd n rs/\∀H',(∀c o,c≠p->H c=some o->H' c=some o)->CoAt K CS CC H' p n rs->Q .non H'
def b9x (K:A0a)(CS:SK->Addr)(CC:CK->Addr):Sp:=fun vs H Q _=>∃(p w:Addr) (n:Nat) (rs:List Row) (u:Row),vs=[.ref p,.ref w]/\CoAt K CS CC H p n rs/\H w=some (.tup u.V)/\rs.length<=9/\∀q,H q=none->Q (.ref q) (upd H q (.lst (vn (rs.map fun r=>(a2v r u).toNat))))
abbrev d2h (K:A0a)(CS:SK->Addr)(CC:CK->Addr)(_:CK):Sp:=b9x K CS CC
def sig (rs:List Row)(u:Row):List Nat:=rs.map fun r=>(a2v r u).toNat
def hit (rs:List Row)(sg:List Nat)(u:Row):Bool:=decide (sig rs u=sg)
def a8t (K:A0a):Sp:=fun vs H Q _=>∃(l:Addr) (n:Nat) (as:List Addr) (ws:List Row),vs=[.ref l,.int n]/\H l=some (.lst (a1c as))/\a2a (Rt K H) as ws/\n<=9/\as.length<=27/\(∀u∈ws,u.x<2^n/\u.z<2^n)/\∀p H' bs,a1n H H'->H p=none->H' p=some (.lst (a1c bs))->a2a (Rt K H') bs (b4x n ws)->Q (.ref p) H'
def b5z (K:A0a):Sp:=fun vs H Q _=>∃(many n:Nat),vs=[.int many,.int n]/\many<=2/\n<=9/\∀p H' bs,a1n H H'->H' p=some (.lst (a1c bs))->a2a (Rt K H') bs (Wup n many)->Q (.ref p) H'
theorem ne_mod {n t:Nat}(hj:j<n)(h1:1<=t)(h2:t<n):(j+t)%n≠j:=by
 rcases A2t (j+t) n with h|h
 ·rw[A8b h];omega
 ·rw[Nat.mod_eq_sub_mod h,A8b (by omega)];omega
theorem ne_modI {n:Nat}{r:Int}(hj:j<n)(h0:0<=r)(h2:r<(n:Int)-1)(e:((j:Int)+1+r)%(n:Int)=(i:Int)):j≠i:=by
 obtain⟨t,rfl⟩:∃t:Nat,r=(t:Int):=⟨r.toNat,by omega⟩
 have e2:((j+(1+t))%n:Nat)=i:=by
  have e3:(j:Int)+1+(t:Int)=((j+(1+t):Nat):Int):=by push_cast;omega
  rw[e3,<- Int.natCast_emod] at e;exact Int.ofNat_inj.mp e
 intro z;exact ne_mod hj (by omega) (by omega) (e2.trans z.symm)
theorem b3z:∀{a b:List Nat},a.map (fun x:Nat=>(x:Int))=b.map (fun x:Nat=>(x:Int))->a=b
 | [],[],_=>rfl
 | [],_::_,h=>by cases h
 | _::_,[],h=>by cases h
 | x::r,y::t,h=>by
  simp only[A2a,B0x] at h;rw[Int.ofNat_inj.mp h.1,b3z h.2]
theorem dd_eq {e:Dd}(hk:d.k=e.k)(hw:d.w.map (fun x:Nat=>(x:Int))=e.w.map (fun x:Nat=>(x:Int))):d=e:=by
 obtain⟨k,w⟩:=d;obtain⟨k',w'⟩:=e;cases hk;have hw':w=w':=b3z hw;rw[hw']
theorem c0q:∀{l:List Nat},l.Nodup->(l.map fun x:Nat=>(x:Int)).Nodup
 | [],_=>by simp
 | x::r,h=>by
  rw[A5g] at h;rw[A2a,A5g];refine⟨fun z=>?_,c0q h.2⟩;obtain⟨y,hy,e⟩:=List.mem_map.mp z;have e2:y=x:=Int.ofNat_inj.mp e;rw[e2] at hy;exact h.1 hy
theorem vn_rng {n:Nat}(ok:d.Ok n):∀i∈d.w.map (fun x:Nat=>(x:Int)),0<=i/\i<(n:Int):=fun i hi=>by
 obtain⟨x,hx,rfl⟩:=List.mem_map.mp hi;have:=ok.lt x hx;omega
theorem wk_app {p1:Addr}(h:H p=some (.lst (a1c as)))(w:a2a (Wt H) as ds)(w1:Wt H p1 d) :
  (upd H p (.lst (a1c as++[.ref p1]))) p=some (.lst (a1c (as++[p1])))/\a2a (Wt (upd H p (.lst (a1c as++[.ref p1])))) (as++[p1]) (ds++[d])/\But p H (upd H p (.lst (a1c as++[.ref p1]))):=
 ⟨by rw[a0d];unfold a1c;rw[A0f];rfl,(w.mono fun a d x=>But.upd.wt h x).snoc (But.upd.wt h w1),But.upd⟩
theorem wh_bit (m:Nat)(a b c:Bool):A3x (m:Int) (A2e (bI a) (A3x (A3x 1 (bI b)) (bI c)))=((m^^^(a && !(c ^^ b)).toNat:Nat):Int):=by
 have e:A2e (bI a) (A3x (A3x 1 (bI b)) (bI c))=(((a && !(c ^^ b)).toNat:Nat):Int):=by cases a<;>cases b<;>cases c<;>decide +kernel
 rw[e,b7z]
theorem ex_turn (n i j:Nat):n^^^(n.testBit j ^^ n.testBit i).toNat*2^j^^^(n.testBit j ^^ n.testBit i).toNat*2^i=ex n i j:=by
 unfold ex;rw[B0c,A1m,A4y (_*2^j),<- A1m]
def k8:Nat->DK
 | 0=>.over|1=>.quarter|2=>.back|3=>.both|4=>.both|5=>.wher|6=>.wher|_=>.swap
theorem at_k8 (h:m<8):atI [V.str "over",.str "quarter",.str "back",.str "both",.str "both",.str "where",.str "where",.str "swap"] (m:Int)=some (.str (k8 m).word):=by
 match m,h with
 | 0,_=>rfl|1,_=>rfl|2,_=>rfl|3,_=>rfl|4,_=>rfl|5,_=>rfl|6,_=>rfl|7,_=>rfl
theorem in_two (k:DK):inV (.str k.word) [V.str "where",.str "swap"]=decide (k.n=2):=by cases k<;>decide +kernel
theorem len1I {l:List Int}(h:l.length=1):∃x,l=[x]:=by
 match l,h with
 | [x],_=>exact⟨x,rfl⟩
theorem refs_at (h:as[i]? = some a):(a1c as)[i]? = some (.ref a):=by unfold a1c;rw[List.getElem?_map,h];rfl
theorem vn_at {l:List Nat}{x:V}(h:(vn l)[i]? = some x):∃k:Nat,x=.int k/\l[i]? = some k:=by
 unfold vn at h;rw[List.getElem?_map] at h
 cases e:l[i]? with
 | none=>rw[e] at h;cases h
 | some k=>rw[e] at h;exact⟨k,(A0s h).symm,rfl⟩
theorem c2c (a b:List Nat):vn a++vn b=vn (a++b):=by unfold vn;rw[A0f]
theorem Row.Ok.to40 {n:Nat}(h:r.Ok n)(hn:n<=40):r.Ok 40:=⟨h.m,A0c h.x (A0g (by decide) hn),A0c h.z (A0g (by decide) hn)⟩
theorem st_join {t u:TS}{c:Prop} [Decidable c]{nx0 bk ct:St->Hp->Prop}{rt:VK}{σ:St}{H:Hp}(P:(St->Hp->Prop)->Prop)(b1g:P nx0)(h:∀nx,P nx->if decide c=true then t ⟨nx,rt,bk,ct⟩ σ H else u ⟨nx,rt,bk,ct⟩ σ H):if decide c=true then t ⟨nx0,rt,bk,ct⟩ σ H else u ⟨nx0,rt,bk,ct⟩ σ H:=h nx0 b1g
theorem d6e:∀(a:List Sm) (s:Sm) (l w:Nat),red (a++[s]) l w=if (red a l w).1.testBit s.j=true then ((red a l w).1^^^s.t,(red a l w).2^^^s.p) else red a l w
 | [],s,l,w=>by
  show (if l.testBit s.j=true then (l^^^s.t,w^^^s.p) else (l,w))=_;rfl
 | u::a,s,l,w=>by
  rw[A8c];unfold red
  split
  ·exact d6e a s _ _
  ·exact d6e a s _ _
theorem red_at {s:Sm}(x w:Nat)(h:ss[i]? = some s):red (ss.take (i+1)) x w=if (red (ss.take i) x w).1.testBit s.j=true then ((red (ss.take i) x w).1^^^s.t,(red (ss.take i) x w).2^^^s.p) else red (ss.take i) x w:=by
 rw[a0s h,d6e]
theorem and_pow_ne (l j:Nat):(((l&&&2^j:Nat):Int)=0)=(l.testBit j=false):=by
 rw[c8q];cases l.testBit j
 ·simp
 ·have h:=A0x j;apply propext
  constructor
  ·intro z;rw[A4t,A7t] at z;omega
  ·intro z;cases z
theorem b6u (l:Addr)(t:Int):(b3q l t).lookup ("sums":Str)=some (.ref l):=rfl
theorem d2f (l:Addr)(t:Int):(b3q l t).lookup ("taken":Str)=some (.int t):=by
 have h1:(("taken":Str) == "sums")=false:=by decide +kernel
 unfold b3q;rw[A1g,h1];rfl
theorem b9g (l:Addr)(t:Int){m:Str}(h1:(m == "sums")=false)(h2:(m == "taken")=false):(b3q l t).lookup m=none:=by
 unfold b3q;rw[A1g,h1,A1g,h2];rfl
theorem taken_put (l:Addr)(t u:Int):b2t "taken" (.int u) (b3q l t)=b3q l u:=by
 have h1:¬(("sums":Str) = "taken"):=by decide +kernel
 simp only[b3q,b2t,if_neg h1];rfl
theorem first_put (l:Addr)(t:Int):b2t "taken" (.int t) (b2t "sums" (.ref l) [])=b3q l t:=by
 have h1:¬(("sums":Str) = "taken"):=by decide +kernel
 simp only[b3q,b2t,if_neg h1]
theorem or_sn {z n:Nat}(h:x<2^n):x|||z*2^n=x^^^z*2^n:=by
 have h3:x&&&z*2^n=0:=by
  apply A1h;intro i;rw[A1k,<- A3n,A3v,A1y]
  rcases A2t i n with hi|hi
  ·simp[Nat.not_le.2 hi]
  ·rw[A0u (A0c h (A0g (by decide) hi))];rfl
 have:=b0n x (z*2^n);omega
theorem bes_dec (r q:Row):decide (pop (crs r q)%2=0) = !a2v r q:=by
 unfold crs;have h:=b1n r q;cases e:a2v r q
 ·rw[decide_eq_true (h.1 e)];rfl
 ·rw[decide_eq_false fun z=>by rw[h.2 z] at e;cases e];rfl
theorem c8m:∀i:Nat,(A1u i true).all id=true
 | 0=>rfl
 | i+1=>by rw[List.replicate_succ,A5m,c8m i];rfl
theorem bI1 (b:Bool):decide (bI b=1)=b:=by cases b<;>decide
theorem rise_len {ls:List Nat}(h:ls.Pairwise (· < ·))(hl:∀l∈ls,l<s):ls.length<=s:=by
 have g:∀{i},i<ls.length->ls[i]? = some (ls.getD i 0):=fun {i} hi=>by rw[List.getD_eq_getElem?_getD,List.getElem?_eq_getElem hi];rfl
 exact pigeon ls.length s (fun k=>ls.getD k 0) (fun i hi=>hl _ (List.mem_of_getElem? (g hi))) (fun i j hi hj e=>up_inj h (g hi) (by rw[g hj,e]))
theorem st_neRL {Q:VK}{ss:List Row}(ha:SqL K H a (a1c as))(hb:SqL K H b (a1c bs))(h1:a2a (Rt K H) as rs)(h2:a2a (Rt K H) bs ss)(q:∀c:Bool,(c=true ↔ rs≠ss)->Q (.bl c) H):rNeD K (.ref a) (.ref b) H Q:=
 ⟨_,_,.lst ha (dvs_rw h1),.lst hb (dvs_rw h2),c2f rs,c2f ss,q _ (by
  have e:=rows_eqv rs ss;rw[A4v]
  cases h:A2x (rs.map rD) (ss.map rD) with
  | true=>rw[h] at e;have:=e.1 rfl;simp[this]
  | false=>rw[h] at e;simp;intro z;have:=e.2 z;cases this)⟩
theorem allB_true (h:∀r∈rs,∀s∈rs,a2v r s=false):allB rs=true:=by
 unfold allB;rw[A4h];intro b hb;obtain⟨k,hk,rfl⟩:=A0r.1 hb;have hk':=A6q.1 hk;show bsd rs k=true;unfold bsd;rw[A4h];intro c hc;obtain⟨s,hs,rfl⟩:=A0r.1 hc;have e:rs.getD k ⟨0,0,0⟩=rs[k]:=by rw[List.getD_eq_getElem?_getD,List.getElem?_eq_getElem hk'];rfl
 show (!a2v (rs.getD k ⟨0,0,0⟩) s)=true;rw[e,h _ (A5p _) s (A1x hs)];rfl
theorem d2z (n:Nat)(lc s:Addr):(c7x n lc s).lookup ("n":Str)=some (.int (n:Int)):=rfl
theorem c7y (n:Nat)(lc s:Addr):(c7x n lc s).lookup ("checks":Str)=some (.ref lc):=by
 unfold c7x;rw[A1g,show (("checks":Str) == "n")=false by decide +kernel];rfl
theorem look_span (n:Nat)(lc s:Addr):(c7x n lc s).lookup ("span":Str)=some (.ref s):=by
 unfold c7x;rw[A1g,show (("span":Str) == "n")=false by decide +kernel,A1g,show (("span":Str) == "checks")=false by decide +kernel];rfl
theorem b4k (n:Nat)(lc s:Addr){m:Str}(h1:(m == "n")=false)(h2:(m == "checks")=false)(h3:(m == "span")=false):(c7x n lc s).lookup m=none:=by
 unfold c7x;rw[A1g,h1,A1g,h2,A1g,h3];rfl
theorem all_puts (n:Nat)(lc s:Addr):b2t "span" (.ref s) (b2t "checks" (.ref lc) (b2t "n" (.int (n:Int)) []))=c7x n lc s:=by
 have h1:¬(("n":Str) = "checks"):=by decide +kernel
 have h2:¬(("n":Str) = "span"):=by decide +kernel
 have h3:¬(("checks":Str) = "span"):=by decide +kernel
 simp only[c7x,b2t,if_neg h1,if_neg h2,if_neg h3]
theorem SnAt.same {CS:SK->Addr}{us:List Nat}(s:a1n H H')(h:SnAt CS H p l us ss):SnAt CS H' p l us ss:=by
 obtain⟨dx,as,h1,h2,h3,h4,h5⟩:=h;exact⟨dx,as,s _ _ h1,s _ _ h2,h3.mono fun a d (x:Sm3 H a d)=>(s _ _ x:Sm3 H' a d),h4,h5⟩
theorem SnAt.but {CS:SK->Addr}{q:Addr}{us:List Nat}{C dy:Addr}{fs:List (Str×V)}(B:But q H H')(hq:H q=some (.ins C dy fs))(n:p≠q)(h:SnAt CS H p l us ss):SnAt CS H' p l us ss:=by
 obtain⟨dx,as,h1,h2,h3,h4,h5⟩:=h;exact⟨dx,as,B _ _ n h1,B _ _ (a8x h2 hq (by intro z;cases z)) h2,h3.mono fun a d (x:Sm3 H a d)=>(B _ _ (a8x x hq (by intro z;cases z)) x:Sm3 H' a d),h4,h5⟩
theorem CoAt.same {K:A0a}{CS:SK->Addr}{CC:CK->Addr}{H H':Hp}{p:Addr}{n:Nat}{rs:List Row}(s:a1n H H')(h:CoAt K CS CC H p n rs):CoAt K CS CC H' p n rs:=by
 obtain⟨dx,lc,sp,ls,as,ss,h1,h2,h3,h4⟩:=h;exact⟨dx,lc,sp,ls,as,ss,s _ _ h1,s _ _ h2,h3.mono fun a d x=>Rt.same s x,h4.same s⟩
theorem at_gd {ns:List Int}(h:k<ns.length):atI (ns.map V.int) (k:Int)=some (.int (ns.getD k 0)):=by
 refine b9u ?_;rw[List.getElem?_map,List.getElem?_eq_getElem h,List.getD_eq_getElem?_getD,List.getElem?_eq_getElem h];rfl
theorem and_one01 (z:Int):∃b:Nat,A2e z 1=(b:Int)/\b<=1:=by
 unfold A2e;rw[decide_eq_true (by decide:(0:Int)<=1)]
 cases e:decide (0<=z) with
 | true=>exact⟨z.toNat&&&(1:Int).toNat,rfl,Nat.and_le_right⟩
 | false=>
  have hl:(1:Int).toNat&&&(A6s z).toNat<=(1:Int).toNat:=A4u;have h1:(1:Int).toNat=1:=rfl;exact⟨1-((1:Int).toNat&&&(A6s z).toNat),by dsimp only;omega,by omega⟩
theorem vnI (l:List Nat):vn l=(l.map fun k:Nat=>(k:Int)).map V.int:=by unfold vn;rw[A3u];rfl
theorem dec_ints (a b:List Nat):decide ((a.map fun k:Nat=>(k:Int))=b.map fun k:Nat=>(k:Int))=decide (a=b):=by
 by_cases e:a=b
 ·rw[e,decide_eq_true rfl,decide_eq_true rfl]
 ·rw[decide_eq_false e,decide_eq_false fun z=>e (b3z z)]
theorem row_app {ts:List Row}{xs:List V}(n0:H0 pt=none)(s:a1n H0 H2)(hf:H2 pt=some (.lst (a1c cs)))(hB:a2a (Rt K H2) cs ts)(ht:H2 t=none)(hx:xs=r.V) :
  a1n H0 (upd (upd H2 t (.tup xs)) pt (.lst (a1c cs++[.ref t])))/\(upd (upd H2 t (.tup xs)) pt (.lst (a1c cs++[.ref t]))) pt=some (.lst (a1c (cs++[t])))/\a2a (Rt K (upd (upd H2 t (.tup xs)) pt (.lst (a1c cs++[.ref t])))) (cs++[t]) (ts++[r]):=by
 subst hx;have S3:=a0e ht (.tup r.V);have h3:Rt K (upd H2 t (.tup r.V)) t r:=a0d;have hf3:=S3 _ _ hf;have B4:But pt (upd H2 t (.tup r.V)) (upd (upd H2 t (.tup r.V)) pt (.lst (a1c cs++[.ref t]))):=But.upd;exact⟨But.same (s.trans S3) B4 n0,by rw[a0d,a2f],(hB.mono fun a d (x:Rt K H2 a d)=>B4.rt hf3 (Rt.same S3 x)).snoc (B4.rt hf3 h3)⟩
abbrev kS (l:List Nat):List Key:=l.map fun k:Nat=>(B1f (k:Int):Key)
theorem kS_V (l:List Nat):(kS l).map kV=vn l:=by unfold vn kS;rw[A3u];rfl
theorem kS_inj {a b:List Nat}(h:kS a=kS b):a=b:=by
 have h2:=congrArg (List.map kV) h;rw[kS_V,kS_V,vnI,vnI] at h2;exact b3z ((List.map_inj_right (f:=V.int) (fun x y e=>by injection e)).1 h2)
def b5a (K:A0a)(CD:SK->Addr):Sp:=fun vs H Q _=>∃(p l:Addr) (x:Nat) (us:List Nat) (ss:List Sm),vs=[.ref p,.int x]/\SnAt CD H p l us ss/\us.length<=100/\∀H',a1n H H'->((red ss x 0).1=0->Q (.int ((red ss x 0).2:Int)) H')/\((red ss x 0).1≠0->Q .non H')
abbrev c0k (K:A0a)(CD:SK->Addr)(_:SK):Sp:=b5a K CD
def b4y (K:A0a)(CS:SK->Addr)(CC:CK->Addr):Sp:=fun vs H Q _=>∃(p w:Addr) (n:Nat) (rs:List Row) (u:Row),vs=[.ref p,.ref w]/\CoAt K CS CC H p n rs/\H w=some (.tup u.V)/\u.Ok n/\n<=9/\rs.length<=9/\∀(c:Bool) H',a1n H H'->(c=true ↔ Spn (rs.map (sn n)) (sn n u))->Q (.bl c) H'
abbrev c1c (K:A0a)(CS:SK->Addr)(CC:CK->Addr)(_:CK):Sp:=b4y K CS CC
inductive Th where
 | row (r:Row)
 | lst (r:Row)
 | non
def GoodC (n:Nat)(ths:List Th):Prop:=∃rs:List Row,ths=rs.map Th.row/\(∀r∈rs,r.Ok n)/\(∀r∈rs,∀s∈rs,a2v r s=false)/\Ind (rs.map (sn n))
theorem GoodC.cd {n:Nat}(ok:∀r∈rs,r.Ok n)(com:∀r∈rs,∀s∈rs,a2v r s=false)(hi:Ind (rs.map (sn n))):Cd n rs:=
 ⟨iso ok com hi,ok,com,fun ha hb e=>d5z hi (by rw[A0b];exact ha) (by rw[A0b];exact hb) e⟩
theorem ind_init:∀{m l:List Nat},Ind (l++m)->Ind l
 | [],l,h=>by rwa [A3d] at h
 | b::m,l,h=>by
  rw[show l++b::m=(l++[b])++m by simp] at h;have h1:=ind_init h;exact(show ¬Spn l b/\Ind l from ind_perm (A7x (l₁:=l) (l₂:=[b])) h1).2
theorem ind_take {n:Nat}(h:Ind (rs.map (sn n)))(i:Nat):Ind ((rs.take i).map (sn n)):=by
 refine ind_init (m:=(rs.drop i).map (sn n)) ?_;rw[<- A0f,A5v];exact h
def pls (n:Nat):List Nat:=plc n (A1f (n:Int))
def WtA (H:Hp)(a:Addr)(d:Dd):Prop:=H a=some (.tup (.str d.k.word::vn d.w))
def oneD (r:Row)(k:Nat):List Dd:=(if r.z.testBit k then [⟨.quarter,[k]⟩,⟨.quarter,[k]⟩] else [])++(if r.x.testBit k then [⟨.over,[k]⟩] else [])
def dsK (r:Row)(ks:List Nat):List Dd:=ks.flatMap (oneD r)
def dsR (r:Row):List Dd:=dsK r (pls (r.x|||r.z))
def sp_places (K:A0a):Sp:=fun vs H Q _=>∃n:Nat,vs=[.int n]/\n<2^100/\∀p,H p=none->Q (.ref p) (upd H p (.lst (vn (pls n))))
def c7k (K:A0a):Sp:=fun vs H Q _=>∃(a:Addr) (r:Row),vs=[.ref a]/\SqT K H a r.V/\r.x<2^90/\r.z<2^90/\∀l H' as,H l=none->a1n H H'->H' l=some (.lst (as.map V.ref))->Paired (WtA H') as (dsR r)->Q (.ref l) H'
theorem oneD_len (r:Row)(k:Nat):(oneD r k).length<=3:=by
 unfold oneD
 split<;>split<;>simp
theorem dsK_snoc (r:Row)(ks:List Nat)(k:Nat):dsK r (ks++[k])=dsK r ks++oneD r k:=by simp[dsK,List.flatMap_append]
theorem dsK_len (r:Row):∀ks:List Nat,(dsK r ks).length<=3*ks.length
 | []=>A0k _
 | k::ks=>by
  have h1:=oneD_len r k;have h2:=dsK_len r ks;show (oneD r k++dsK r ks).length<=_;rw[A0j,A1c];omega
theorem dsK_mem (h:d∈dsK r ks):∃k∈ks,d=⟨.quarter,[k]⟩\/d=⟨.over,[k]⟩:=by
 obtain⟨k,hk,hd⟩:=List.mem_flatMap.mp h;refine⟨k,hk,?_⟩;unfold oneD at hd
 rcases List.mem_append.mp hd with z|z
 ·split at z
  ·simp at z;exact .inl z
  ·cases z
 ·split at z
  ·exact .inr (List.mem_singleton.mp z)
  ·cases z
theorem bit_out (h:x<2^i)(hk:i<=k):x.testBit k=false:=A0u (A0c h (A0g (by decide) hk))
theorem or_parts (x z:Nat):x<2^A1f ((x|||z:Nat):Int)/\z<2^A1f ((x|||z:Nat):Int):=
 ⟨A2m Nat.left_le_or (c2m _),A2m Nat.right_le_or (c2m _)⟩
theorem dsR_ok {n:Nat}(ok:r.Ok n)(h:d∈dsR r):∃k,k<n/\(d=⟨.quarter,[k]⟩\/d=⟨.over,[k]⟩):=by
 obtain⟨k,hk,hd⟩:=dsK_mem h;have hb:A1f ((r.x|||r.z:Nat):Int)<=n:=b7j (A3g ok.x ok.z);have:=d3a _ _ k hk;exact⟨k,by omega,hd⟩
theorem dd_ok {n:Nat}(hk:k<n)(h:d=⟨.quarter,[k]⟩\/d=⟨.over,[k]⟩):d.Ok n:=by
 rcases h with rfl|rfl
 ·exact⟨rfl,fun x hx=>by rw[List.mem_singleton.mp hx];exact hk,by simp⟩
 ·exact⟨rfl,fun x hx=>by rw[List.mem_singleton.mp hx];exact hk,by simp⟩
theorem wt_stay (s:a1n H G)(h:Paired (WtA H) as ds):Paired (WtA G) as ds:=pr_map (fun a d w=>s _ _ w) h
theorem d2g {xs:List V}(hl:G l=some (.lst xs))(h:Paired (WtA G) as ds):Paired (WtA (upd G l o)) as ds:=
 pr_map (fun a d w=>by
  show (upd G l o) a=_;rw[a0w (a8x w hl (by intro z;cases z))]
  exact w) h
theorem pr_app {α β:Type}{F:α->β->Prop}:∀{as:List α} {bs:List β} {cs:List α} {ds:List β},Paired F as bs->Paired F cs ds->Paired F (as++cs) (bs++ds)
 | _,_,_,_,.nil,k=>k
 | _,_,_,_,.cons h t,k=>.cons h (pr_app t k)
theorem pr_len {α β:Type}{F:α->β->Prop}:∀{as:List α} {bs:List β},Paired F as bs->as.length=bs.length
 | _,_,.nil=>rfl
 | _,_,.cons h t=>congrArg (· + 1) (pr_len t)
theorem a2a.unsnoc {α β:Type}{R:α->β->Prop}:∀{as:List α} {bs:List β} {b:β},a2a R as (bs++[b])->∃cs c,as=cs++[c]/\a2a R cs bs/\R c b
 | [],[],b,h=>by cases h
 | [],x::bs,b,h=>by cases h
 | a::as,[],b,h=>by
  cases h with
  | cons h t=>cases t;exact⟨[],a,rfl,.nil,h⟩
 | a::as,x::bs,b,h=>by
  cases h with
  | cons h t=>
   obtain⟨cs,c,rfl,h1,h2⟩:=a2a.unsnoc t;exact⟨a::cs,c,rfl,.cons h h1,h2⟩
theorem odl_snoc {f:Nat}:∀{ss:List Sm} {i:Nat} {s:Sm},ss.reverse[i]? = some s->odl f (ss.drop (ss.length-(i+1)))=(if pb (odl f (ss.drop (ss.length-i))&&&s.t)=true then odl f (ss.drop (ss.length-i))^^^2^s.j else odl f (ss.drop (ss.length-i))):=fun {ss i s} h=>by
 have hi:i<ss.length:=by
  have:=(List.getElem?_eq_some_iff.1 h).1
  rwa [List.length_reverse] at this
 rw[List.getElem?_reverse hi] at h
 have e:ss.drop (ss.length-(i+1))=s::ss.drop (ss.length-i):=by
  obtain⟨h1,h2⟩:=List.getElem?_eq_some_iff.1 h;rw[List.drop_eq_getElem_cons (show ss.length-(i+1)<ss.length by omega),show ss.length-(i+1)+1=ss.length-i by omega]
  have e2:ss[ss.length-(i+1)]'(by omega)=s:=by
   have h3:ss[ss.length-(i+1)]? = some s:=by rw[show ss.length-(i+1)=ss.length-1-i by omega];exact h
   exact(List.getElem?_eq_some_iff.1 h3).2
  rw[e2]
 rw[e];rfl
theorem pb_dec (x:Nat):decide (((pop x:Nat):Int)%2=1)=pb x:=by
 unfold pb
 by_cases c:pop x%2=1
 ·rw[decide_eq_true c,decide_eq_true (by omega)]
 ·rw[decide_eq_false c,decide_eq_false (by omega)]
theorem join2 {T:Addr->Hp->Prop}{P:Addr->Hp->Prop}{G:Prop}(h1:(∀p H,P p H->T p H)->G)(h2:∀p H,P p H->T p H):G:=h1 h2
theorem c1z {p:Row->Bool}{l:List Row}(h:l[i]? = some u)(e:(l.take i).find? p=some f):(l.take (i+1)).find? p=some f:=by
 rw[b3g h,e];rfl
theorem find_sig {l:List Row}{s:List Nat}(e:l.find? (hit rs s)=some f):f∈l/\sig rs f=s:=⟨List.mem_of_find?_eq_some e,by have h:=List.find?_some e;unfold hit at h;exact of_decide_eq_true h⟩
def Fst (H:Hp)(rs:List Row)(L:List Row)(kvs:List (List Key×V)):Prop:=∀s,(L.find? (hit rs s)=none->c5d kvs (kS s)=none)/\∀f,L.find? (hit rs s)=some f->∃b,c5d kvs (kS s)=some (.ref b)/\H b=some (.tup (Row.V f))
theorem Fst.same {kvs:List (List Key×V)}(h:Fst H rs L kvs)(s:∀c r,H c=some (.tup (Row.V r))->H' c=some (.tup (Row.V r))):Fst H' rs L kvs:=fun k=>⟨(h k).1,fun f e=>by
 obtain⟨b,e1,e2⟩:=(h k).2 f e
 exact⟨b,e1,s _ _ e2⟩⟩
theorem Fst.old {kvs:List (List Key×V)}(h:Fst H rs (L.take i) kvs)(hr:L[i]? = some r)(e:(L.take i).find? (hit rs (sig rs r))=some f):Fst H rs (L.take (i+1)) kvs:=fun s=>by
 by_cases c:sig rs r=s
 ·subst c;refine⟨fun z=>?_,fun g z=>?_⟩
  ·rw[c1z hr e] at z;cases z
  ·rw[c1z hr e] at z;cases z;exact(h _).2 f e
 ·have e2:(L.take (i+1)).find? (hit rs s)=(L.take i).find? (hit rs s):=by
   rw[b3g hr,if_neg (show ¬hit rs s r=true from fun z=>c (of_decide_eq_true z)),Option.or_none]
  rw[e2];exact h s
theorem Fst.new {kvs:List (List Key×V)}(h:Fst H rs (L.take i) kvs)(hr:L[i]? = some r)(hb:H b=some (.tup (Row.V r)))(e:(L.take i).find? (hit rs (sig rs r))=none):Fst H rs (L.take (i+1)) (putK kvs (kS (sig rs r)) (.ref b))/\(L.take (i+1)).find? (hit rs (sig rs r))=some r:=by
 have e1:(L.take (i+1)).find? (hit rs (sig rs r))=some r:=by
  rw[b3g hr,e,if_pos (show hit rs (sig rs r) r=true from decide_eq_true rfl)];rfl
 refine⟨fun s=>?_,e1⟩;rw[valV_put]
 by_cases c:sig rs r=s
 ·subst c;rw[if_pos rfl,e1];refine⟨fun z=>?_,fun g z=>?_⟩
  ·cases z
  ·cases z;exact⟨b,rfl,hb⟩
 ·rw[if_neg fun z=>c (kS_inj z).symm]
  have e2:(L.take (i+1)).find? (hit rs s)=(L.take i).find? (hit rs s):=by
   rw[b3g hr,if_neg (show ¬hit rs s r=true from fun z=>c (of_decide_eq_true z)),Option.or_none]
  rw[e2];exact h s
def isX (s:Nat):Bool:=s==120||s==121
def isZ (s:Nat):Bool:=s==122||s==121
def wrow (n:Nat)(w:List Nat):Row:=⟨0,bsum (fun j=>isX (w.getD j 46)) n,bsum (fun j=>isZ (w.getD j 46)) n⟩
theorem in_xy (hs:s=120\/s=121\/s=122\/s=46):(!(A5j (A6x "xy") ⟨[s].toArray⟩ 0 (A6x "xy").length 1).isEmpty)=isX s:=by
 rcases hs with rfl|rfl|rfl|rfl<;>decide +kernel
theorem in_zy (hs:s=120\/s=121\/s=122\/s=46):(!(A5j (A6x "zy") ⟨[s].toArray⟩ 0 (A6x "zy").length 1).isEmpty)=isZ s:=by
 rcases hs with rfl|rfl|rfl|rfl<;>decide +kernel
def W5:List (List Nat):=[[120,122,122,120,46],[46,120,122,122,120],[120,46,120,122,122],[122,120,46,120,122]]
def W7:List (List Nat):=[[46,46,46,120,120,120,120],[46,120,120,46,46,120,120],[120,46,120,46,120,46,120],[46,46,46,122,122,122,122],[46,122,122,46,46,122,122],[122,46,122,46,122,46,122]]
def W9:List (List Nat):=[[122,122,46,46,46,46,46,46,46],[46,122,122,46,46,46,46,46,46],[46,46,46,122,122,46,46,46,46],[46,46,46,46,122,122,46,46,46],[46,46,46,46,46,46,122,122,46],[46,46,46,46,46,46,46,122,122],[120,120,120,120,120,120,46,46,46],[46,46,46,120,120,120,120,120,120]]
theorem wok {n:Nat}{W:List (List Nat)}(h:(W.all fun w=>decide (w.length=n)&&w.all fun s=>decide (s=120\/s=121\/s=122\/s=46))=true):∀w∈W,w.length=n/\∀s∈w,s=120\/s=121\/s=122\/s=46:=fun w hw=>by
 have h1:=A4h.1 h w hw;rw[A2h,decide_eq_true_eq] at h1;exact⟨h1.1,fun s hs=>of_decide_eq_true (A4h.1 h1.2 s hs)⟩
theorem orR_comm (a b:Row):orR a b=orR b a:=by unfold orR;rw[A6d a.x,A6d a.z]
theorem or_heav {n l:Nat}{a b:Row}(hk:k<n)(hl:l<n)(hkl:k≠l)(ha:a∈l3 k)(hb:b∈l3 l):orR a b∈c2k n 2:=by
 have key:∀{k l:Nat} {a b:Row},k<n->l<n->l<k->a∈l3 k->b∈l3 l->orR a b∈c2k n 2:=fun {k l a b} hk hl hlk ha hb=>by
  rw[d2v];unfold pairsR pairs1;refine B0h.2 ⟨a,b0m.2 ⟨k,hk,ha⟩,A0r.2 ⟨b,A8s.2 ⟨b0m.2 ⟨l,hl,hb⟩,?_⟩,rfl⟩⟩;rw[l3_sup ha,l3_sup hb];exact decide_eq_true (A1w (by decide) hlk)
 rcases Nat.lt_or_gt_of_ne hkl with h|h
 ·rw[orR_comm];exact key hl hk h hb ha
 ·exact key hk hl h ha hb
theorem one1_l3 {a b:Bool}(h:(a||b)=true):one1 k a b∈l3 k:=by
 unfold one1 l3;cases a<;>cases b<;>simp at h ⊢
theorem bor_mul (a b:Bool)(k:Nat):a.toNat*2^k|||b.toNat*2^k=(a||b).toNat*2^k:=by
 cases a<;>cases b<;>simp
theorem wmore {n:Nat}{w:Row}(hn:0<n)(hi:i<2)(hk:k<n)(a b:Bool)(hw:w∈Wup n i):(⟨0,w.x|||a.toNat*2^k,w.z|||b.toNat*2^k⟩:Row)∈Wup n (i+1):=by
 have h01:i=0\/i=1:=by omega
 rcases h01 with rfl|rfl
 ·rw[A0h.1 hw];refine(mem_W1 hn).2 ⟨k,hk,a,b,?_⟩;unfold one1;simp
 ·obtain⟨l,hl,a',b',rfl⟩:=(mem_W1 hn).1 hw;have up:∀{u:Row},u∈Wup n 1->u∈Wup n 2:=fun h=>A0p.2 (.inl h);have m1:∀{k:Nat} (a b:Bool),k<n->one1 k a b∈Wup n 2:=fun {k} a b hk=>up ((mem_W1 hn).2 ⟨k,hk,a,b,rfl⟩);show (⟨0,a'.toNat*2^l|||a.toNat*2^k,b'.toNat*2^l|||b.toNat*2^k⟩:Row)∈Wup n 2
  by_cases e:l=k
  ·subst e;rw[bor_mul,bor_mul];exact m1 _ _ hk
  ·cases h1:(a||b) with
   | false=>
    rw[A8f] at h1;rw[h1.1,h1.2];simp only[A4k,A4r,Nat.or_zero];exact m1 a' b' hl
   | true=>
    cases h2:(a'||b') with
    | false=>
     rw[A8f] at h2;rw[h2.1,h2.2];simp only[A4k,A4r,Nat.zero_or];exact m1 a b hk
    | true=>
     exact A0p.2 (.inr (or_heav hl hk e (one1_l3 h2) (one1_l3 h1)))
def a8u (K:A0a)(CD:SK->Addr):Sp:=fun vs H Q _=>∃(p l:Addr) (us:List Nat) (ss0:List Sm) (s:Sm),vs=[.ref p]/\SnAt CD H p l us (ss0++[s])/\us.length<=100/\∀H',a1n H H'->Q (.int ((odl (2^s.j) ss0:Nat):Int)) H'
abbrev b1v (K:A0a)(CD:SK->Addr)(_:SK):Sp:=a8u K CD
def c9a (K:A0a):Sp:=fun vs H Q _=>∃(a b:Addr) (u v:Row),vs=[.ref a,.ref b]/\SqT K H a u.V/\SqT K H b v.V/\∀p,H p=none->Q (.ref p) (upd H p (.tup (tog u v).V))
def b1r (K:A0a)(CS:SK->Addr)(CC:CK->Addr):Sp:=fun vs H Q _=>∃(p w:Addr) (n:Nat) (rs:List Row) (u:Row),vs=[.ref p,.ref w]/\CoAt K CS CC H p n rs/\H w=some (.tup u.V)/\(∀r∈rs,r.Ok n)/\u.Ok n/\n<=9/\rs.length<=9/\¬Spn (rs.map (sn n)) (sn n u)/\∀t H' v,a1n H H'->H' t=some (.tup v.V)->v.m=0->v.Ok n->(∀r∈rs,a2v r v=false)->a2v u v=true->Q (.ref t) H'
abbrev b6x (K:A0a)(CS:SK->Addr)(CC:CK->Addr)(_:CK):Sp:=b1r K CS CC
def Ptd (H:Hp)(n many:Nat)(rs:List Row)(v:V):Prop:=(v=.non/\¬Prt n rs (Wup n many))\/∃t a b c f w y,v=.ref t/\H t=some (.tup [.ref a,.ref b,.ref c])/\H a=some (.tup (Row.V f))/\H b=some (.tup (Row.V w))/\H c=some (.tup (Row.V y))/\f∈Wup n many/\w∈Wup n many/\sig rs f=sig rs w/\¬Hm n rs f w/\y.m=0/\y.Ok n/\(∀r∈rs,a2v r y=false)/\a2v (tog f w) y=true
def a7q (K:A0a)(CS:SK->Addr)(CC:CK->Addr):Sp:=fun vs H Q _=>∃(p:Addr) (many n:Nat) (rs:List Row),vs=[.ref p,.int many]/\CoAt K CS CC H p n rs/\(∀r∈rs,r.Ok n)/\many<=2/\n<=9/\rs.length<=9/\∀v H',a1n H H'->Ptd H' n many rs v->Q v H'
abbrev b0t (K:A0a)(CS:SK->Addr)(CC:CK->Addr)(_:CK):Sp:=a7q K CS CC
def sp_row_by (K:A0a)(CD:DK->Addr):Sp:=fun vs H Q _=>∃(l b:Addr) (ds:List Dd) (r:Row),vs=[.ref l,.ref b]/\DsAt CD H l ds/\H b=some (.tup r.V)/\(∀d∈ds,∀x∈d.w,x<=1000)/\∀p H',a1n H H'->H' p=some (.tup (acts ds r).V)->Q (.ref p) H'
def sp_undone (K:A0a)(CD:DK->Addr):Sp:=fun vs H Q _=>∃(l:Addr) (n:Nat) (as:List Addr) (ds:List Dd),vs=[.ref l]/\H l=some (.lst (a1c as))/\as.length<=5000/\a2a (Wt H) as ds/\(∀d∈ds,d.Ok n)/\
 ∀p H' bs,a1n H H'->H p=none->H' p=some (.lst (a1c bs))->a2a (Wt H') bs (undo ds)->Q (.ref p) H'
def c3t (K:A0a):Sp:=fun vs H Q _=>∃(c:Int) (n:Nat),vs=[.int c,.int n]/\0<n/\n<=40/\∀p H' (d:Dd),a1n H H'->Wt H' p d->d.Ok n->Q (.ref p) H'
def d2n (K:A0a):Sp:=fun vs H Q _=>∃(w a:Addr) (d:Dd) (n:Nat) (r:Row),vs=[.ref w,.ref a]/\Wt H w d/\d.Ok n/\n<=40/\H a=some (.tup r.V)/\∀p H',a1n H H'->H' p=some (.tup (act d r).V)->Q (.ref p) H'
def b8h (K:A0a):Sp:=fun vs H Q _=>∃(l a:Addr) (n:Nat) (as:List Addr) (ds:List Dd) (r:Row),vs=[.ref l,.ref a]/\SqL K H l (a1c as)/\a2a (Wt H) as ds/\(∀d∈ds,d.Ok n)/\n<=40/\H a=some (.tup r.V)/\∀p H',a1n H H'->H' p=some (.tup (acts ds r).V)->Q (.ref p) H'
abbrev c1p (K:A0a):Sp:=a7f K
def c9f (K:A0a):Sp:=fun vs H Q _=>∃(a:Addr) (n:Nat) (r:Row),vs=[.ref a,.int n]/\H a=some (.tup r.V)/\r.Ok n/\n<=40/\∀H',a1n H H'->Q (.bl true) H'
theorem WdAt.stay {k:DK}{is:List Int}(h:WdAt H a k is)(s:a1n H H'):WdAt H' a k is:=⟨s _ _ h.1,h.2⟩
def b8p (K:A0a):Sp:=fun vs H Q _=>∃(c:Int) (m:Nat),vs=[.int c,.int m]/\m<=100/\∀p H' (ns:List Int),a1n H H'->H' p=some (.lst (ns.map V.int))->ns.length=m->(∀x∈ns,0<=x)->Q (.ref p) H'
abbrev c4h (K:A0a):Sp:=sp_ones K
def c3q (K:A0a):Sp:=fun vs H Q _=>∃(a:Addr) (r:Row),vs=[.ref a]/\SqT K H a r.V/\Q (.int (pop (r.x&&&r.z):Nat)) H
def c8j (K:A0a):Sp:=fun vs H Q _=>∃(a:Addr) (s n:Nat) (r:Row),vs=[.ref a,.int s,.int n]/\SqT K H a r.V/\r.Ok n/\n<=40/\Q (.bl ((sn n r).testBit s)) H
def b6z (K:A0a):Sp:=fun vs H Q _=>∃(l a:Addr) (s n:Nat) (as:List Addr) (rs:List Row) (g:Row),vs=[.ref l,.int s,.ref a,.int n]/\H l=some (.lst (a1c as))/\a2a (Rt K H) as rs/\as.length<=100/\Rt K H a g/\(∀r∈rs,r.Ok n/\a2v r g=false)/\n<=40/\∀p H' bs,a1n H H'->H p=none->H' p=some (.lst (a1c bs))->a2a (Rt K H') bs (rs.map (stp n s g))->Q (.ref p) H'
def c2a (K:A0a):Sp:=fun vs H Q _=>∃(l:Addr) (as:List Addr) (us:List Row),vs=[.ref l]/\H l=some (.lst (a1c as))/\a2a (Rt K H) as us/\as.length<=200/\(∀i r,us[i]? = some r->a2v (pr (us.take i)) r=false)/\∀p H',a1n H H'->H' p=some (.tup (pr us).V)->Q (.ref p) H'
def sp_widest (K:A0a):Sp:=fun vs H Q _=>∃(l:Addr) (as:List Addr) (rs:List Row),vs=[.ref l]/\H l=some (.lst (a1c as))/\a2a (Rt K H) as rs/\as.length<=100/\0<as.length/\(∀r∈rs,r.Ok 40)/\∀(w:Nat) H',a1n H H'->w<=40->(∀r∈rs,r.x<2^w/\r.z<2^w)->Q (.int (w:Int)) H'
def d2y (K:A0a):Sp:=fun vs H Q _=>∃(l a:Addr) (as:List Addr) (rs:List Row) (o:Row),vs=[.ref l,.ref a]/\H l=some (.lst (a1c as))/\a2a (Rt K H) as rs/\as.length<=40/\H a=some (.tup o.V)/\(∀r∈rs,r.Ok 40)/\o.Ok 40/\(∀r∈rs,∀s∈rs,a2v r s=false)/\
 ∀H',a1n H H'->((∀m,¬Lsel rs m o)->Q .non H')/\∀m p q,m<2^rs.length->Lsel rs m o->H' q=some (.lst (vn (plc m rs.length)))->H' p=some (.tup [.ref q,.int (((pr (pk rs (plc m rs.length))).m^^^o.m:Nat):Int)])->Q (.ref p) H'
def b8r (K:A0a):Sp:=fun vs H Q _=>∃(a b:Addr) (r q:Row),vs=[.ref a,.ref b]/\SqT K H a r.V/\SqT K H b q.V/\Q (.bl (!a2v r q)) H
def c7z (K:A0a):Sp:=fun vs H Q _=>∃(a:Addr) (r:Row) (w:Nat),vs=[.ref a,.int w]/\SqT K H a r.V/\∀p,H p=none->Q (.ref p) (upd H p (.tup (⟨r.m,r.x&&&w,r.z&&&w⟩:Row).V))
def b4z (K:A0a):Sp:=fun vs H Q _=>∃(a:Addr) (n:Nat) (l:Row),vs=[.ref a]/\SqT K H a l.V/\l.Ok n/\n<=40/\(l.x|||l.z)≠0/\∀p H' as,a1n H H'->H' p=some (.lst (a1c as))->a2a (Wt H') as (wk1 l (pls (l.x|||l.z)))->Q (.ref p) H'
theorem low_bit2:∀v:Nat,0<v->∃j,v-(v&&&(v-1))=2^j/\v.testBit j=true/\∀i,i<j->v.testBit i=false:=by
 intro v
 induction v using A7d with
 | _ v ih=>
  intro hv
  by_cases h:v%2=1
  ·refine⟨0,?_,by rw[A2j];simpa using h,fun i hi=>absurd hi (B0z i)⟩
   have e:v&&&(v-1)=v-1:=by
    have h1:(v&&&(v-1))/2=(v-1)/2:=by
     rw[c1e,show v/2=(v-1)/2 by omega,Nat.and_self]
    have h2:(v&&&(v-1))%2=0:=by
     rw[d5v,show (v-1)%2=0 by omega,Nat.mul_zero]
    omega
   rw[e];show v-(v-1)=1;omega
  ·obtain⟨j,e,b,lo⟩:=ih (v/2) (by omega) (by omega);refine⟨j+1,?_,by rw[A5q];exact b,fun i hi=>?_⟩
   ·have h1:(v&&&(v-1))/2=v/2&&&(v/2-1):=by
     rw[c1e,show (v-1)/2=v/2-1 by omega]
    have h2:(v&&&(v-1))%2=0:=by
     rw[d5v,show v%2=0 by omega,A4r]
    have h3:v/2&&&(v/2-1)<=v/2:=A4u;rw[A2s,<- e];omega
   ·cases i with
    | zero=>rw[A2j];simpa using h
    | succ i=>rw[A5q];exact lo i (by omega)
theorem wd_app {ts:List Dd}{xs:List V}(n0:H0 pt=none)(s:a1n H0 H2)(hf:H2 pt=some (.lst (a1c cs)))(hB:a2a (Wt H2) cs ts)(ht:H2 t=none)(hw:Wt (upd H2 t (.tup xs)) t d) :
  a1n H0 (upd (upd H2 t (.tup xs)) pt (.lst (a1c cs++[.ref t])))/\(upd (upd H2 t (.tup xs)) pt (.lst (a1c cs++[.ref t]))) pt=some (.lst (a1c (cs++[t])))/\a2a (Wt (upd (upd H2 t (.tup xs)) pt (.lst (a1c cs++[.ref t])))) (cs++[t]) (ts++[d]):=by
 have S3:=a0e ht (.tup xs);obtain⟨w1,w2,w3⟩:=wk_app (S3 _ _ hf) (hB.mono fun a d x=>S3 _ _ x) hw;exact⟨But.same (s.trans S3) w3 n0,w1,w2⟩
theorem w1s_snoc (l:Row):∀(ks:List Nat) (k:Nat),w1s l (ks++[k])=w1s l ks++w1 l k
 | [],k=>by simp[w1s]
 | j::ks,k=>by rw[A8c,w1s,w1s,w1s_snoc l ks k,A6m]
theorem w2s_snoc (f:Nat):∀(ks:List Nat) (k:Nat),w2s f (ks++[k])=w2s f ks++[⟨.wher,[k,f]⟩]
 | [],k=>rfl
 | j::ks,k=>by rw[A8c,w2s,w2s,w2s_snoc f ks k];rfl
theorem w1s_len (l:Row):∀ks:List Nat,(w1s l ks).length<=2*ks.length
 | []=>A0k _
 | k::ks=>by
  have h:=w1s_len l ks
  have h2:(w1 l k).length<=2:=by
   unfold w1
   split
   ·split
    ·exact A0k _
    ·exact A5x 1
   ·exact A1v _
  rw[w1s,A0j,A1c];omega
theorem w2s_len (f:Nat):∀ks:List Nat,(w2s f ks).length=ks.length
 | []=>rfl
 | k::ks=>by rw[w2s,A1c,A1c,w2s_len f ks]
theorem mem_plc {x k:Nat}:∀{b:Nat},k∈plc x b ↔ k<b/\x.testBit k=true
 | 0=>by simp[plc]
 | b+1=>by
  rw[plc]
  cases e:x.testBit b with
  | true=>
   rw[if_pos rfl,A0p,mem_plc,A0h]
   constructor
   ·rintro (⟨h1,h2⟩|rfl)
    ·exact⟨by omega,h2⟩
    ·exact⟨by omega,e⟩
   ·rintro⟨h1,h2⟩
    rcases A2t k b with h|h
    ·exact .inl ⟨h,h2⟩
    ·exact .inr (by omega)
  | false=>
   rw[if_neg (by decide),mem_plc]
   constructor
   ·rintro⟨h1,h2⟩;exact⟨by omega,h2⟩
   ·rintro⟨h1,h2⟩;refine⟨?_,h2⟩
    rcases A2t k b with h|h
    ·exact h
    ·have:k=b:=by omega
     rw[this,e] at h2;cases h2
theorem d5f :k∈pls x ↔ x.testBit k=true:=by
 unfold pls;rw[mem_plc];refine⟨fun z=>z.2,fun z=>⟨?_,z⟩⟩;have h1:=c2m x
 rcases A2t k (A1f (x:Int)) with h|h
 ·exact h
 ·rw[A0u (A0c h1 (A0g (by decide) h))] at z;cases z
theorem pls_len {n:Nat}(h:x<2^n):(pls x).length<=n:=by
 unfold pls;rw[c3f];exact A1z (cnt_le _ _) (b7j h)
theorem pls_nd (x:Nat):(pls x).Nodup:=(plc_up x _).imp fun h=>A2r h
theorem pls_cons (h:x≠0):∃f ks,pls x=f::ks:=by
 cases e:pls x with
 | nil=>
  obtain⟨j,hj⟩:=A8d h;have:=d5f.2 hj;rw[e] at this;cases this
 | cons f ks=>exact⟨f,ks,rfl⟩
theorem pls_low {v f:Nat}(h:pls v=f::ks)(hj:v.testBit j=true)(lo:∀i,i<j->v.testBit i=false):j=f:=by
 have h1:f∈pls v:=by rw[h];exact A0d
 have h2:v.testBit f=true:=d5f.1 h1;have h3:j∈pls v:=d5f.2 hj;have up:(pls v).Pairwise (· < ·):=plc_up v _
 rw[h] at h3 up
 rcases A1n.1 h3 with e|e
 ·exact e
 ·have:=(A3z.1 up).1 j e;rw[lo f this] at h2;cases h2
def c3n (K:A0a):Sp:=fun vs H Q _=>∃(a:Addr) (r:Row),vs=[.ref a]/\SqT K H a r.V/\Q (.int (pop (r.x|||r.z):Nat)) H
abbrev pln (ds:List Dd)(n:Nat):List Row:=(A3a n).map fun k=>im ds (2^k)
def SgAt (K:A0a)(CM:MK->Addr)(H:Hp)(x:Addr)(n:Nat)(rs:List Row):Prop:=∃dx a as,H x=some (.ins (CM .sg) dx [("n",.int (n:Int)),("kept",.ref a)])/\H a=some (.lst (a1c as))/\a2a (Rt K H) as rs
def sp_times (K:A0a):Sp:=fun vs H Q _=>∃(a b:Addr) (r q:Row),vs=[.ref a,.ref b]/\SqT K H a r.V/\SqT K H b q.V/\(a2v r q=false->∀p,H p=none->Q (.ref p) (upd H p (.tup (tm r q).V)))/\(¬pop (crs r q)%2=0->False)
def b6q (K:A0a):Sp:=fun vs H Q E=>∃v,vs=[v]/\(False\/(∃a k is,v=.ref a/\WdAt H a k is/\∀H',a1n H H'->Q .non H'))
def b3c (K:A0a)(CD:DK->Addr):Sp:=fun vs H Q E=>∃v,vs=[v]/\(False\/(∃a k is,v=.ref a/\WdAt H a k is/\
 ((∀i∈is,0<=i)->∀p d H',a1n H H'->d6y CD H' p d->d.k=k->d.w.map (fun x:Nat=>(x:Int))=is->Q (.ref p) H')/\((¬ ∀i∈is,0<=i)->∀H',a1n H H'->False)))
def c6w (K:A0a)(CD:DK->Addr):Sp:=fun vs H Q E=>∃v n,vs=[v,.int ((n:Nat):Int)]/\(False\/(∃a k is,v=.ref a/\WdAt H a k is/\
 ((∀i∈is,0<=i/\i<(n:Int))->∀p d H',a1n H H'->d6y CD H' p d->d.k=k->d.w.map (fun x:Nat=>(x:Int))=is->Q (.ref p) H')/\((¬ ∀i∈is,0<=i/\i<(n:Int))->∀H',a1n H H'->False)))
def c9v (K:A0a)(CD:DK->Addr):Sp:=fun vs H Q _=>∃(l:Addr) (n:Nat) (as:List Addr) (ds:List Dd),vs=[.ref l,.int n]/\H l=some (.lst (a1c as))/\as.length<=200/\a2a (Wt H) as ds/\(∀d∈ds,d.Ok n)/\∀p H',a1n H H'->DsAt CD H' p ds->Q (.ref p) H'
def b8v (K:A0a):Sp:=fun vs H Q _=>∃(l:Addr) (n:Nat) (as:List Addr) (rs:List Row),vs=[.ref l,.int n]/\H l=some (.lst (a1c as))/\a2a (Rt K H) as rs/\Cd n rs/\rs.length=n/\n<=40/\∀H',a1n H H'->Gd n rs->Q .non H'
def d2q (K:A0a):Sp:=fun vs H Q _=>∃(l:Addr) (n:Nat) (as:List Addr) (ds:List Dd),vs=[.ref l,.int n]/\H l=some (.lst (a1c as))/\a2a (Rt K H) as (pln ds n)/\(∀d∈ds,d.Ok n)/\n<=40/\∀p H' bs ts ls,a1n H H'->H p=none->H' p=some (.lst (a1c bs))->a2a (Rt K H') bs ts->Tl ds n ts ls->Q (.ref p) H'
def sp_made (K:A0a):Sp:=fun vs H Q _=>∃(l:Addr) (n:Nat) (as:List Addr) (rs:List Row),vs=[.ref l,.int n]/\H l=some (.lst (a1c as))/\a2a (Rt K H) as rs/\Cd n rs/\rs.length=n/\n<=40/\(∀p H' bs ds,a1n H H'->H' p=some (.lst (a1c bs))->a2a (Wt H') bs ds->(∀d∈ds,d.Ok n)->(n<10->ds.length<=200)->(∀r∈rs,(acts (undo ds) r).m=0/\(acts (undo ds) r).x=0)->Q (.ref p) H')
def a6m (K:A0a)(CM:MK->Addr):Sp:=fun vs H Q _=>∃(p:Addr) (n m:Nat) (k:MK),vs=[.ref p,.int n,.int m]/\1<=n/\n<=m/\∃dx,H p=some (.ins (CM k) dx [])/\Q .non (upd H p (.ins (CM k) dx [("n",.int n)]))
def a7u (K:A0a)(CM:MK->Addr):Sp:=fun vs H Q _=>∃(p:Addr) (n:Nat),vs=[.ref p,.int n]/\1<=n/\n<=9/\∃dx,H p=some (.ins (CM .sg) dx [])/\∀H',But p H H'->SgAt K CM H' p n (pln [] n)->Q .non H'
def c1n (K:A0a)(CM:MK->Addr):Sp:=fun vs H Q _=>∃(x:Addr) (n:Nat) (rs:List Row),vs=[.ref x]/\SgAt K CM H x n rs/\rs.length<=9/\∀p as H',a1n H H'->H p=none->H' p=some (.lst (a1c as))->a2a (Rt K H') as rs->Q (.ref p) H'
abbrev sp_M_rows (K:A0a)(CM:MK->Addr)(_:MK):Sp:=c1n K CM
def b7g (K:A0a)(CD:DK->Addr)(CM:MK->Addr):Sp:=fun vs H Q _=>∃(x y:Addr) (n:Nat) (d:Dd) (rs:List Row),vs=[.ref x,.ref y]/\SgAt K CM H x n rs/\rs.length<=9/\d6y CD H y d/\(∀i∈d.w,i<=1000)/\∀H',But x H H'->SgAt K CM H' x n (rs.map (act d))->Q .non H'
abbrev c8k (K:A0a)(CD:DK->Addr)(CM:MK->Addr)(_:MK):Sp:=b7g K CD CM
def c1a (K:A0a)(CD:DK->Addr)(CM:MK->Addr):Sp:=fun vs H Q _=>∃(x w:Addr) (n:Nat) (d:Dd) (rs:List Row),vs=[.ref x,.ref w]/\Wt H w d/\d.Ok n/\n<=9/\SgAt K CM H x n rs/\rs.length<=9/\∀H',But x H H'->SgAt K CM H' x n (rs.map (act d))->Q .non H'
abbrev sp_M_do (K:A0a)(CD:DK->Addr)(CM:MK->Addr)(_:MK):Sp:=c1a K CD CM
def c1f (K:A0a):Sp:=fun vs H Q _=>∃(a:Addr) (n:Nat) (r:Row),vs=[.ref a,.int n]/\H a=some (.tup r.V)/\r.Ok n/\n<=40/\r.m=0/\¬(r.x=0/\r.z=0)/\∀H',a1n H H'->Q .non H'
def b0r (K:A0a)(CM:MK->Addr):Sp:=fun vs H Q _=>∃(x w:Addr) (n:Nat) (ds:List Dd) (xx zz b:Nat),vs=[.ref x,.ref w]/\SgAt K CM H x n (pln ds n)/\(∀d∈ds,d.Ok n)/\n<=9/\H w=some (.tup (⟨0,xx,zz⟩:Row).V)/\Wr ds n ⟨b,xx,zz⟩/\∀H',a1n H H'->Q (.int (b:Nat)) H'
abbrev b6h (K:A0a)(CM:MK->Addr)(_:MK):Sp:=b0r K CM
def b6a (K:A0a)(CM:MK->Addr):Sp:=fun vs _ _ _=>∃a b c,vs=[a,b,c]/\False
abbrev c7b (K:A0a)(CM:MK->Addr)(_:MK):Sp:=b6a K CM
def b8s (K:A0a):Sp:=fun vs _ _ _=>∃a,vs=[a]/\False
def b5w (K:A0a)(CM:MK->Addr):Sp:=fun vs H Q _=>∃(x w:Addr) (n:Nat) (ds:List Dd) (xx zz b:Nat),vs=[.ref x,.ref w,.non]/\SgAt K CM H x n (pln ds n)/\(∀d∈ds,d.Ok n)/\n<=9/\H w=some (.tup (⟨0,xx,zz⟩:Row).V)/\Wr ds n ⟨b,xx,zz⟩/\¬(xx=0/\zz=0)/\∀p H',a1n H H'->H' p=some (.tup [.int (b:Nat),.bl true])->Q (.ref p) H'
abbrev sp_M_look (K:A0a)(CM:MK->Addr)(_:MK):Sp:=b5w K CM
def c0n (K:A0a)(CS:SK->Addr)(CC:CK->Addr):Sp:=fun vs H Q _=>∃(p l:Addr) (many n:Nat) (rs:List Row) (sg:List Nat) (u0:Row),vs=[.ref p,.ref l,.int many]/\CoAt K CS CC H p n rs/\SqL K H l (vn sg)/\many<=2/\n<=9/\rs.length<=9/\(Wup n many).find? (hit rs sg)=some u0/\∀q H',a1n H H'->H' q=some (.tup u0.V)->Q (.ref q) H'
abbrev d2j (K:A0a)(CS:SK->Addr)(CC:CK->Addr)(_:CK):Sp:=c0n K CS CC
def kn:Nat->Nat×List (List Nat)
 | 0=>(5,W5)
 | 1=>(7,W7)
 | _=>(9,W9)
def b9y (K:A0a):Sp:=fun vs H Q _=>∃w:Nat,vs=[.int w]/\w<3/\∀p l H',a1n H H'->H' l=some (.lst ((kn w).2.map T))->H' p=some (.tup [.int (((kn w).1:Nat):Int),.ref l])->Q (.ref p) H'
def okS (w:List Nat):Prop:=w.length<=9/\∀s∈w,s=120\/s=121\/s=122\/s=46
def b7e (K:A0a):Sp:=fun vs H Q _=>∃w:List Nat,vs=[T w]/\okS w/\∀p H',a1n H H'->H' p=some (.tup (wrow w.length w).V)->Q (.ref p) H'
def c2b (K:A0a):Sp:=fun vs H Q _=>∃(l:Addr) (n:Nat) (ns:List Int),vs=[.ref l,.int n]/\SqL K H l (ns.map V.int)/\ns.length<=100/\0<n/\n<=40/\∀p H' as ds,a1n H H'->H' p=some (.lst (a1c as))->a2a (Wt H') as ds->(∀d∈ds,Dd.Ok d n)->Q (.ref p) H'
def c4c (K:A0a):Sp:=fun vs H Q _=>∃(a:Addr) (ns:List Int),vs=[.ref a]/\SqL K H a (ns.map V.int)/\∀p l H' n m as rs,a1n H H'->H' p=some (.tup [.int ((n:Nat):Int),.ref l,.int ((m:Nat):Int)])->H' l=some (.lst (a1c as))->a2a (Rt K H') as rs->d2m n rs->0<n->n<=9->m<=n->Q (.ref p) H'
def c1x (K:A0a):Sp:=fun vs H Q _=>∃(c:Int) (n many:Nat),vs=[.int c,.int n,.int many]/\0<n/\n<=9/\many<=2/\∀p H' u,a1n H H'->H' p=some (.tup (Row.V u))->u∈Wup n many->Q (.ref p) H'
def c1j (K:A0a):Sp:=fun vs H Q _=>∃(l a:Addr) (as:List Addr) (rs:List Row) (u:Row),vs=[.ref l,.ref a]/\SqL K H l (a1c as)/\a2a (Rt K H) as rs/\as.length<=9/\H a=some (.tup u.V)/\∀p,H p=none->Q (.ref p) (upd H p (.lst (vn (sig rs u))))
def b8q (K:A0a):Sp:=fun vs H Q _=>∃(a:Addr) (u:Row),vs=[.ref a]/\SqT K H a u.V/\Q (.int (wt u:Nat)) H
def b5t (K:A0a):Sp:=fun vs H Q _=>∃(l t:Addr) (n many:Nat) (as:List Addr) (rs:List Row),vs=[.ref l,.ref t,.int n,.int many]/\SqL K H l (a1c as)/\a2a (Rt K H) as rs/\(∀r∈rs,r.Ok n)/\rs.length<=9/\n<=9/\many<=2/\Ptd H n many rs (.ref t)/\∀H',a1n H H'->Q (.bl true) H'
def b3h (K:A0a)(CS:SK->Addr)(CC:CK->Addr):Sp:=fun vs H Q _=>∃(p l l2 a:Addr) (n many k:Nat) (as:List Addr) (rs:List Row),vs=[.ref p,.ref l,.ref l2,.int n,.ref a,.int many]/\∃u:Row,CoAt K CS CC H p n (rs.take k)/\SqL K H l (a1c as)/\SqL K H l2 (a1c (as.take k))/\a2a (Rt K H) as rs/\d2m n rs/\k<=n/\0<n/\n<=9/\many<=2/\H a=some (.tup u.V)/\u∈Wup n many/\¬Prt n (rs.take k) (Wup n many)/\∀H',a1n H H'->Q (.bl true) H'
def sp_law (K:A0a):Sp:=fun vs H Q _=>∃(a:Addr) (ns:List Int),vs=[.ref a]/\SqL K H a (ns.map V.int)/\ns.length<=63/\∀H',Q (.bl true) H'
theorem pop_nil (n:Nat):pop n=0->n=0:=by
 induction n using A7d with
 | ind n ih=>
  intro h
  by_cases z:n=0
  ·exact z
  ·rw[b0c] at h;have:=ih (n/2) (pop_dec z) (by omega);omega
theorem iteB {c:Bool}{a b:Prop}(h1:c=true->a)(h2:c=false->b):if c=true then a else b:=by
 cases c
 ·exact h2 rfl
 ·exact h1 rfl
theorem pln_wl {n:Nat}(hn:n<=9)(h:∀d∈ds,d.Ok n):Wl ds n (pln ds n):=Wl.plain (by omega) h
theorem pln_sure {n xx zz b:Nat}(hn:n<=9)(h:∀d∈ds,d.Ok n)(w:Wr ds n ⟨b,xx,zz⟩)(hm:m<2^(pln ds n).length)(l:Lsel (pln ds n) m ⟨0,xx,zz⟩):(pr (pk (pln ds n) (plc m (pln ds n).length))).m=b:=by
 have k:=pr_lsel (rs:=pln ds n) hm
 have wr:Wr ds n (pr (pk (pln ds n) (plc m (pln ds n).length))):=by
  have key:∀us:List Row,(∀u∈us,Wr ds n u)->Wr ds n (pr us):=by
   intro us;rw[<- A8e us];generalize us.reverse=ts
   induction ts with
   | nil=>exact fun _=>⟨0,A0x n,(acts_zero ds).symm⟩
   | cons u us ih=>
    intro hu;rw[A6k,d3n];exact(ih fun v hv=>hu v (by simp at hv ⊢;exact .inl hv)).tm h (hu u (by simp))
  exact key _ fun u hu=>(pln_wl hn h).wh u (pk_mem (fun k hk=>d3a _ _ k hk) u hu)
 have e:sn n (pr (pk (pln ds n) (plc m (pln ds n).length)))=sn n ⟨b,xx,zz⟩:=by
  unfold sn;rw[<- k.1,<- k.2,l.1,l.2]
 rw[wr.inj h w e]
theorem pln_cd {n:Nat}(hn:n<=40)(h:∀d∈ds,d.Ok n):Cd n (pln ds n):=by
 refine Cw.cd (ds:=ds) (m:=n) ⟨by rw[A0b,A3w],fun {k r} e=>?_⟩ h (A0k n) hn;rw[List.getElem?_map] at e
 cases hk:(A3a n)[k]? with
 | none=>rw[hk] at e;cases e
 | some j=>
  rw[hk] at e;obtain⟨hj,rfl⟩:=List.getElem?_eq_some_iff.1 hk;rw[<- A0s e,List.getElem_range];rw[A3w] at hj;exact⟨(d4c h (A1w (by decide) hj)).m,rfl,rfl⟩
def kx:Nat->List Nat
 | 0=>A1u 5 122
 | 1=>A1u 7 122
 | _=>A1u 9 120
def kF (w:Nat):List Row:=((kn w).2++[kx w]).map (wrow (kn w).1)
def indB:List Nat->Bool
 | []=>true
 | b::l=>(A3a (2^l.length)).all (fun m=>a2e l m != b)&&indB l
theorem indB_ok:∀{l:List Nat},indB l=true->Ind l
 | [],_=>trivial
 | b::l,h=>by
  unfold indB at h;rw[A2h,A4h] at h;exact⟨fun⟨m,hm,e⟩=>by have:=h.1 m (A6q.2 hm);rw[e] at this;simp at this,indB_ok h.2⟩
def keptB (n:Nat)(rs:List Row):Bool:=decide (rs.length=n)&&(rs.all (fun r=>decide (r.m<=1)&&decide (r.x<2^n)&&decide (r.z<2^n))&&(rs.all (fun r=>rs.all fun s=>!a2v r s)&&indB (rs.map (sn n))))
theorem d3v {n:Nat}(h:keptB n rs=true):d2m n rs:=by
 unfold keptB at h;simp only[A2h,A4h,decide_eq_true_eq,Bool.not_eq_true'] at h;exact⟨h.1,fun r hr=>⟨(h.2.1 r hr).1.1,(h.2.1 r hr).1.2,(h.2.1 r hr).2⟩,h.2.2.1,indB_ok h.2.2.2⟩
theorem kF_kept:∀{w:Nat},w<3->d2m (kn w).1 (kF w)/\0<(kn w).1/\(kn w).1<=9/\(kn w).2.length<=(kn w).1
 | 0,_=>⟨d3v (by decide +kernel),by decide,by decide,by decide⟩
 | 1,_=>⟨d3v (by decide +kernel),by decide,by decide,by decide⟩
 | 2,_=>⟨d3v (by decide +kernel),by decide,by decide,by decide⟩
 | w+3,h=>by omega
theorem kn_ok:∀{w:Nat},w<3->(∀t∈(kn w).2,t.length=(kn w).1/\okS t)/\(kx w).length=(kn w).1/\okS (kx w)
 | 0,_=>⟨fun t ht=>by have:=wok (n:=5) (W:=W5) (by decide +kernel) t ht;exact⟨this.1,by rw[this.1];decide,this.2⟩,rfl,by decide,by decide +kernel⟩
 | 1,_=>⟨fun t ht=>by have:=wok (n:=7) (W:=W7) (by decide +kernel) t ht;exact⟨this.1,by rw[this.1];decide,this.2⟩,rfl,by decide,by decide +kernel⟩
 | 2,_=>⟨fun t ht=>by have:=wok (n:=9) (W:=W9) (by decide +kernel) t ht;exact⟨this.1,by rw[this.1];decide,this.2⟩,rfl,by decide,by decide +kernel⟩
 | w+3,h=>by omega
theorem d2m.acts {n:Nat}:∀{ds:List Dd} {rs:List Row},(∀d∈ds,d.Ok n)->d2m n rs->d2m n (rs.map (acts ds))
 | [],rs,_,h=>by rw[show rs.map (Tw.acts [])=rs from List.map_id rs];exact h
 | d::ds,rs,hd,h=>by
  have:=d2m.acts (ds:=ds) (fun e he=>hd e (A0e _ he)) (h.act (hd d A0d));rw[A3u] at this;exact this
theorem d2m.cd {n:Nat}{rs:List Row}(h:d2m n rs)(k:Nat):Cd n (rs.take k):=GoodC.cd (fun r hr=>h.ok r (A1x hr)) (fun r hr s hs=>h.com r (A1x hr) s (A1x hs)) (ind_take h.ind k)
theorem d2m.cd' {n:Nat}(h:d2m n rs):Cd n rs:=by have:=h.cd rs.length;rwa [A0t] at this
theorem clr_and (x k:Nat):A2e (x:Int) (0-1-((2^k:Nat):Int))=((clr x k:Nat):Int):=by
 have h2:(A6s (0-1-((2^k:Nat):Int))).toNat=2^k:=by unfold A6s;generalize 2^k=m;omega
 have h3:=c8q x k;unfold A2e clr;rw[decide_eq_true (by omega:(0:Int)<=(x:Int)),decide_eq_false (by generalize 2^k=m;omega),A3t,<- h3];have hl:x&&&2^k<=x:=A4u;dsimp only;rw[h2];omega
theorem and_oneB (z:Int):∃a:Bool,A2e z 1=((a.toNat:Nat):Int):=by
 obtain⟨b,e,h⟩:=and_one01 z
 rcases (show b=0\/b=1 by omega) with rfl|rfl
 ·exact⟨false,e⟩
 ·exact⟨true,e⟩
theorem clr_one (a:Bool)(l k:Nat):clr (a.toNat*2^l) k=(a && !decide (l=k)).toNat*2^l:=by
 unfold clr;rw[a7w]
 by_cases h:l=k
 ·subst h;rw[decide_eq_true rfl,A3m,Nat.sub_self,B1t,A2v,A4k,A4r]
 ·rw[decide_eq_false h,A2v,A4k,A4r,B2f,B1e,A3m]
theorem wset {n:Nat}{w:Row}(hn:0<n)(hi:i<2)(hk:k<n)(a b:Bool)(hw:w∈Wup n i):(⟨0,clr w.x k|||a.toNat*2^k,clr w.z k|||b.toNat*2^k⟩:Row)∈Wup n (i+1):=by
 refine wmore (w:=⟨0,clr w.x k,clr w.z k⟩) hn hi hk a b ?_
 rcases (show i=0\/i=1 by omega) with rfl|rfl
 ·rw[A0h.1 hw];unfold clr;rw[Nat.zero_sub];exact A0h.2 rfl
 ·obtain⟨l,hl,a',b',rfl⟩:=(mem_W1 hn).1 hw;exact(mem_W1 hn).2 ⟨l,hl,_,_,by unfold one1;rw[clr_one,clr_one]⟩
theorem len2N {l:List Nat}(h:l.length=2):∃a b,l=[a,b]:=by
 cases l with
 | nil=>cases h
 | cons a l=>
  cases l with
  | nil=>cases h
  | cons b l=>cases l with
   | nil=>exact⟨a,b,rfl⟩
   | cons c l=>simp at h
theorem kx_at:∀{w:Nat},w<3->atI [V.str "zzzzz",.str "zzzzzzz",.str "xxxxxxxxx"] (w:Int)=some (T (kx w))
 | 0,_=>rfl
 | 1,_=>rfl
 | 2,_=>rfl
 | w+3,h=>by omega
def flp (u r:Row):Row:=⟨r.m^^^(a2v r u).toNat,r.x,r.z⟩
theorem acts_one (u:Row)(k m x z:Nat):acts (oneD u k) ⟨m,x,z⟩=⟨m^^^(loc (x.testBit k) (z.testBit k) (u.x.testBit k) (u.z.testBit k)).toNat,x,z⟩:=by
 have q2:acts [⟨.quarter,[k]⟩,⟨.quarter,[k]⟩] ⟨m,x,z⟩=⟨m^^^(x.testBit k).toNat,x,z⟩:=by
  show (⟨m^^^(x.testBit k&&z.testBit k).toNat^^^(x.testBit k&&(z^^^(x.testBit k).toNat*2^k).testBit k).toNat,x,z^^^(x.testBit k).toNat*2^k^^^(x.testBit k).toNat*2^k⟩:Row)=_;rw[xx,A0m,a7w,decide_eq_true rfl,A1m];cases x.testBit k<;>cases z.testBit k<;>rfl
 have q1:∀m,acts [⟨.over,[k]⟩] ⟨m,x,z⟩=⟨m^^^(z.testBit k).toNat,x,z⟩:=fun m=>rfl;unfold oneD loc;cases u.z.testBit k<;>cases u.x.testBit k
 ·show (⟨m,x,z⟩:Row)=_;rw[A2v,A2v,show (false ^^ false).toNat=0 from rfl,A1t]
 ·show acts [⟨.over,[k]⟩] ⟨m,x,z⟩=_;rw[q1];cases x.testBit k<;>cases z.testBit k<;>rfl
 ·show acts [⟨.quarter,[k]⟩,⟨.quarter,[k]⟩] ⟨m,x,z⟩=_;rw[q2];cases x.testBit k<;>cases z.testBit k<;>rfl
 ·show acts ([⟨.quarter,[k]⟩,⟨.quarter,[k]⟩]++[⟨.over,[k]⟩]) ⟨m,x,z⟩=_;rw[a7m,q2,q1,A1m];cases x.testBit k<;>cases z.testBit k<;>rfl
theorem d4p {u r:Row}{s:Nat}(h:∀k,s.testBit k=false->u.x.testBit k=false/\u.z.testBit k=false):∀K,acts (dsK u (plc s K)) r=⟨r.m^^^(c4b K fun k=>loc (r.x.testBit k) (r.z.testBit k) (u.x.testBit k) (u.z.testBit k)).toNat,r.x,r.z⟩
 | 0=>by
  show r=⟨r.m^^^0,r.x,r.z⟩;rw[A1t]
 | K+1=>by
  rw[c9r];unfold plc;cases e:s.testBit K
  ·obtain⟨e1,e2⟩:=h K e;rw[e1,e2,show loc (r.x.testBit K) (r.z.testBit K) false false=false by unfold loc;rw[A2v,A2v];rfl,A3j];exact d4p h K
  ·rw[if_pos rfl,dsK_snoc,a7m,d4p h K,acts_one,A1m];refine congrArg (fun t=>(⟨r.m^^^t,r.x,r.z⟩:Row)) ?_;generalize loc (r.x.testBit K) (r.z.testBit K) (u.x.testBit K) (u.z.testBit K)=c;cases c4b K fun k=>loc (r.x.testBit k) (r.z.testBit k) (u.x.testBit k) (u.z.testBit k)<;>cases c<;>rfl
theorem xorF_to {f:Nat->Bool}{i:Nat}(h:∀k,i<=k->f k=false):∀d,c4b (i+d) f=c4b i f
 | 0=>rfl
 | d+1=>by rw[show i+(d+1)=(i+d)+1 from rfl,c9r,xorF_to h d,h _ (B0g _ _),A3j]
theorem d5j {n:Nat}(ou:u.Ok n)(or':r.Ok n):acts (dsR u) r=flp u r:=by
 obtain⟨h1,h2⟩:=or_parts u.x u.z;have hb:A1f ((u.x|||u.z:Nat):Int)<=n:=b7j (A3g ou.x ou.z);unfold flp dsR pls;rw[symp_xorF or' ou,d4p fun k e=>by rw[A4q,A8f] at e;exact e];obtain⟨d,rfl⟩:=Nat.le.dest hb;rw[xorF_to fun k hk=>by rw[bit_out h1 hk,bit_out h2 hk];unfold loc;rw[A2v,A2v];rfl]
theorem im_app (ds es:List Dd)(v:Nat):im (ds++es) v=acts es (im ds v):=a7m ds es _
theorem pln_app (ds es:List Dd)(n:Nat):pln (ds++es) n=(pln ds n).map (acts es):=by
 unfold pln;rw[A3u];exact A5n fun k _=>im_app ds es _
theorem pln_snoc (ds:List Dd)(d:Dd)(n:Nat):pln (ds++[d]) n=(pln ds n).map (act d):=pln_app ds [d] n
theorem wr_of {n:Nat}(h:∀d∈ds,d.Ok n)(ok:r.Ok n)(h0:(acts (undo ds) r).m=0/\(acts (undo ds) r).x=0):Wr ds n r:=
 ⟨(acts (undo ds) r).z,(b9a ok (d3p h)).z,by
  unfold im;have e:(⟨0,0,(acts (undo ds) r).z⟩:Row)=acts (undo ds) r:=c9s h0.1.symm h0.2.symm rfl
  rw[e,acts_undo' h]⟩
theorem dsR_oks {n:Nat}(ok:r.Ok n):∀d∈dsR r,d.Ok n:=fun d hd=>by
 obtain⟨k,hk,h⟩:=dsR_ok ok hd;exact dd_ok hk h
theorem oks_app {n:Nat}(a:∀d∈ds,d.Ok n)(b:∀d∈es,d.Ok n):∀d∈ds++es,d.Ok n:=fun d hd=>(A0p.1 hd).elim (a d) (b d)
theorem wr_flp {n:Nat}(h:∀d∈ds,d.Ok n)(ou:u.Ok n)(w:Wr ds n r):Wr (ds++dsR u) n (flp u r):=by
 have ok:=w.ok h;obtain⟨v,hv,rfl⟩:=w;exact⟨v,hv,by rw[im_app,d5j ou ok]⟩
theorem pln_back {n:Nat}{v:Row}(h:∀d∈ds,d.Ok n)(ou:u.Ok n)(ov:v.Ok n)(hr:∀r∈rs,Wr ds n r)(hm:Hm n rs u v):((pln ds n).map (acts (dsR u))).map (acts (dsR v))=pln ds n:=by
 rw[A3u]
 conv=>rhs;rw[<- List.map_id (pln ds n)]
 refine A5n fun r hr'=>?_;obtain⟨k,hk,rfl⟩:=A0r.1 hr';have wr:Wr ds n (im ds (2^k)):=⟨2^k,A1w (by decide) (A6q.1 hk),rfl⟩;have ok:=wr.ok h;generalize im ds (2^k)=r at wr ok;obtain⟨m,_,e⟩:=hm;have sy:=spn_symp (n:=n) (u:=r) (rs:=rs) (fun s hs=>⟨((hr s hs).ok h).x,(hr s hs).com h wr⟩) (w:=tog u v) (tog_ok ou ov).x e;rw[c6a (r:=u) (s:=v) ⟨rfl,rfl⟩,b6e u,b6e v] at sy
 have e2:a2v r u=a2v r v:=by
  cases h1:a2v r u<;>cases h2:a2v r v<;>rw[h1,h2] at sy<;>first|rfl|cases sy
 have ok2:(flp u r).Ok n:=⟨m_le ok.m _,ok.x,ok.z⟩;show acts (dsR v) (acts (dsR u) r)=r;rw[d5j ou ok,d5j ov ok2];show (⟨r.m^^^(a2v r u).toNat^^^(a2v r v).toNat,r.x,r.z⟩:Row)=r;rw[e2,xx]
theorem ind_nz:∀{l:List Nat},Ind l->∀{u:Nat},u∈l->u≠0
 | [],_,_,hu=>(nomatch hu)
 | b::l,h,u,hu=>by
  rcases A1n.1 hu with rfl|z
  ·exact fun e=>h.1 (by rw[e];exact Spn.zero l)
  ·exact ind_nz h.2 z
theorem d2m.nz {n:Nat}(h:d2m n rs)(hr:r∈rs):¬(r.x=0/\r.z=0):=fun⟨a,b⟩=>ind_nz h.ind (A0r.2 ⟨r,hr,rfl⟩) (by unfold sn;rw[a,b,A4r];rfl)
theorem SgAt.same {K:A0a}{CM:MK->Addr}{H H':Hp}{x:Addr}{n:Nat}{rs:List Row}(h:SgAt K CM H x n rs)(s:a1n H H'):SgAt K CM H' x n rs:=by
 obtain⟨dx,a,as,h1,h2,h3⟩:=h;exact⟨dx,a,as,s _ _ h1,s _ _ h2,h3.mono fun a d x=>Rt.same s x⟩
theorem SgAt.stay {CM:MK->Addr}{x c:Addr}{n:Nat}(h:SgAt K CM H x n rs)(B:But x H H')(no:∀C dx fs,o≠.ins C dx fs)(e:H c=some o):H' c=some o:=by
 obtain⟨dx,a,as,h1,_⟩:=h;exact B _ _ (fun z=>by rw[z,h1] at e;exact no _ _ _ (A0s e).symm) e
theorem pln_len (ds:List Dd)(n:Nat):(pln ds n).length=n:=by rw[A0b,A3w]
theorem do_loop {CD:DK->Addr}{CM:MK->Addr}{x:Addr}{n:Nat}{D:c4x}{v0 v1 v2 v3 v4 v5 v7 v8 v9 va vb vc vd ve vf:Option V}(hp:H p=some (.lst (a1c bs)))(hB:a2a (Wt H) bs es)(hok:∀d∈es,d.Ok n)(hn:n<=9)(hS:SgAt K CM H x n (pln ds n))
  (hd:∀u H',But x H H'->SgAt K CM H' x n (pln (ds++es) n)->D.nx [v0,v1,v2,v3,v4,v5,some (.ref x),u,v8,v9,va,vb,vc,vd,ve,vf] H'):sForL K (gName 7) (tDrop (tMethD CM (sp_M_do K CD CM) "do" E0 (tVar 6) (c4p (tVar 7) tNil))) D [v0,v1,v2,v3,v4,v5,some (.ref x),v7,v8,v9,va,vb,vc,vd,ve,vf] (.ref p) H:=by
 refine b1s (SqL.of hp) (fun i σ H'=>∃u,σ=[v0,v1,v2,v3,v4,v5,some (.ref x),u,v8,v9,va,vb,vc,vd,ve,vf]/\But x H H'/\SgAt K CM H' x n (pln (ds++es.take i) n)) ⟨_,rfl,fun c o _ e=>e,by rw[B1d,A3d];exact hS⟩ ?_ ?_ ?_
 ·rintro i σ H' _ ⟨_,_,B,_⟩;exact SqL.of (hS.stay B (by intro _ _ _ z;cases z) hp)
 ·rintro i y σ H' hy ⟨u,rfl,B,S⟩;obtain⟨b,hb,rfl⟩:=a1r hy;obtain⟨d,hd',hw⟩:=hB.get hb;obtain⟨dx,a,as,hx,_⟩:=id S;fail"go";refine a4r (d:=MK.sg) hx rfl ?_;fail"go";refine⟨x,b,n,d,_,rfl,hS.stay B (by intro _ _ _ z;cases z) hw,hok d (List.mem_of_getElem? hd'),hn,S,by rw[pln_len];exact hn,fun H2 B2 S2=>?_⟩;exact⟨_,rfl,But.trans B B2,by rw[a0s hd',<- A6m,pln_snoc];exact S2⟩
 ·rintro σ H' ⟨u,rfl,B,S⟩;rw[a0m,hB.len,A0t] at S;exact hd u H' B S
theorem pd_all2 {α β:Type}{R:α->β->Prop}:∀{as:List α} {bs:List β},Paired R as bs->a2a R as bs
 | _,_,.nil=>.nil
 | _,_,.cons h t=>.cons h (pd_all2 t)
theorem cut39 (ns:List Int):∃ms:List Int,c7g (ns.map V.int) (some 3) (some 9)=ms.map V.int/\ms.length<=6:=by
 refine⟨(ns.drop (min 3 ns.length)).take (min 9 ns.length-min 3 ns.length),?_,by rw[A0q];omega⟩;unfold c7g;rw[show (3:Int)=((3:Nat):Int) from rfl,show (9:Int)=((9:Nat):Int) from rfl,HT.sIx_nat,HT.sIx_nat,A0b,B1s,List.map_drop]
section
variable {P:Program}{w:World}{K:A0a}{mg:Str->Option Value}{base:Heap}{a4y:Addr}{a5s:DK->Addr}{a9v:SK->Addr}{b5m:CK->Addr}{b7v:MK->Addr}
local macro_rules|`(tactic| fail"gq")=>`(tactic| repeat (first|fail"g0" | dsimp only[B1t,B1e]))
variable {f:Addr}{fd:FuncData}(T_S:Txt_S K a9v)(a6k:∀d:SK,b3r P w K mg base CX0 1 (a9v d) "left_of" ["self","number","which"] (c3v K a9v d))(a5j:Cal P w K mg base CX0 1 "lowest_bit" ["number"] (c0s K))(c5v:∀d:SK,b3r P w K mg base CX0 2 (a9v d) "take" ["self","number"] (sp_S_take K a9v d))(a4t:GC mg "XS" (.int 1))(a4q:GC mg "ZS" (.int 2))(a8r:Cal P w K mg base CX0 1 "ones" ["number"] (sp_ones K))(a9z:mg "all" = none)(a6p:mg "enumerate" = none)(a2d:Cal P w K mg base CX0 2 "goes_beside" ["one","other"] (b8k K))(a5v:mg "len" = none)(c5w:∀d:SK,b3r P w K mg base CX0 1 (a9v d) "rank" ["self"] (sp_S_rank K a9v d))(b3a:d6v P w K mg base CX0 3 "Span" (a9v .span) ["self","numbers"] (a9d K a9v))(a1a:mg "isinstance" = none)(d0e:mg "int" = none)(c9d:mg "bool" = none)(a5r:mg "tuple" = none)(a1s:GC mg "MINUS" (.int 0))(c_fits:Cal P w K mg base CX0 1 "fits" ["number","n"] (sp_fits K))(a1k:Cal P w K mg base CX0 1 "is_whole_number" ["thing"] (a7f K))(c_NoRow:ExcC K mg "NoRow" d6t)(a4h:Cal P w K mg base (CXE P w) 2 "checked_row" ["thing","n"] (b8t K))(a3x:GC mg "MOST_WIRES_OF_CODE" (.int 9))(a5e:Cal P w K mg base CX0 3 "all_beside" ["rows"] (c1h K))(a6q:Cal P w K mg base CX0 5 "are_apart" ["numbers"] (c4g K))(a4v:mg "list" = none)(b3y:Cal P w K mg base CX0 3 "is_row" ["thing","n"] (sp_is_row K))(a0z:Cal P w K mg base CX0 1 "signs_number" ["row","n"] (b5y K))(T_C:Txt_C K b5m)(b1m:Cal P w K mg base CX0 6 "check_code" ["n","rows"] (c1k K))(a5g:∀d:SK,b3r P w K mg base CX0 2 (a9v d) "parts_of" ["self","number"] (c0k K a9v d))(a7v:mg "reversed" = none)(a5n:∀d:SK,b3r P w K mg base CX0 2 (a9v d) "odd_with_last" ["self"] (b1v K a9v d))(a3q:mg "range" = none)(a3y:Cal P w K mg base CX0 1 "with_a_letter_more" ["wrongs","n"] (a8t K))(b1p:∀d:CK,b3r P w K mg base CX0 3 (b5m d) "harmless" ["self","wrong"] (c1c K a9v b5m d))(a5x:∀d:CK,b3r P w K mg base CX0 3 (b5m d) "signs" ["self","wrong"] (d2h K a9v b5m d))(a8c:∀d:CK,b3r P w K mg base CX0 5 (b5m d) "row_across" ["self","wrong"] (b6x K a9v b5m d))(a3w:Cal P w K mg base CX0 2 "wrongs_up_to" ["many","n"] (b5z K))(b7s:Cal P w K mg base CX0 1 "together" ["one","other"] (c9a K))(a2k:Cal P w K mg base CX0 1 "_law_stream" ["_law_cell","_law_many"] (b8p K))(c8g:mg "max" = none)(a6j:Cal P w K mg base CX0 2 "_law_deed" ["_law_cell","_law_n"] (c3t K))(c0j:Cal P w K mg base CX0 1 "_law_on" ["_law_words","_law_row_here"] (d2n K))(a2y:Cal P w K mg base CX0 1 "_law_cell_at" ["_law_script","_law_k"] (b6f K))(b2c:Cal P w K mg base CX0 1 "_law_known" ["_law_way"] (b9y K))(b1q:Cal P w K mg base CX0 3 "_law_turns" ["_law_cells","_law_n"] (c2b K))(a5z:Cal P w K mg base CX0 1 "_law_letters" ["_law_text"] (b7e K))(a7b:Cal P w K mg base CX0 2 "_law_behind" ["_law_work","_law_row_here"] (b8h K))(a5k:Cal P w K mg base CX0 1 "_law_ones" ["_law_number"] (c4h K))(a3g:Cal P w K mg base CX0 2 "_law_beside" ["_law_one","_law_other"] (b8r K))(b1x:Cal P w K mg base CX0 1 "_law_whole" ["_law_found"] (c1p K))(a3h:Cal P w K mg base CX0 2 "_law_weight" ["_law_row_here"] (b8q K))(a3v:Cal P w K mg base CX0 3 "_law_signs" ["_law_rows","_law_wrong_here"] (c1j K))(a7t:Cal P w K mg base CX0 2 "_law_row" ["_law_found","_law_n"] (c9f K))(T_M:Txt_M K b7v)(a4k:CCal P w K mg base CX0 2 "Machine" "__init__" ["self","n","most"] (a6m K b7v))(b1w:GC mg "MOST_WIRES" (.int 40))(T_D:Txt_D K a5s)(a1f:Cal P w K mg base CX0 1 "bit_at" ["number","k"] (sp_bit_at K))(b1e:Cal P w K mg base CX0 2 "exchanged" ["number","j","k"] (c4a K))(a7r:∀d:DK,b3r P w K mg base CX0 3 (a5s d) "on_row" ["self","row"] (c9y K a5s d))(a1b:CCal P w K mg base CX0 1 "Deed" "__init__" ["self","word","undoer","at"] (a9m K a5s))(a4z:GTab K mg "WIRES_BEHIND" a4y [("over",1),("quarter",1),("back",1),("both",1),("where",2),("swap",2)])(b_str:mg "str" = none)(k_Swap:d6v P w K mg base CX0 2 "Swap" (a5s .swap) ["self","j","k"] (a9h K a5s))(k_Over:d6v P w K mg base CX0 2 "Over" (a5s .over) ["self","k"] (a9e K a5s))(c2h:d6v P w K mg base CX0 2 "Quarter" (a5s .quarter) ["self","k"] (a6h K a5s))(k_Back:d6v P w K mg base CX0 2 "Back" (a5s .back) ["self","k"] (a9k K a5s))(k_Both:d6v P w K mg base CX0 2 "Both" (a5s .both) ["self","k"] (a9p K a5s))(d4f:d6v P w K mg base CX0 2 "Where" (a5s .wher) ["self","j","k"] (a8a K a5s))(b0a:Cal P w K mg base CX0 2 "check_words" ["words"] (b6q K))(b_min:mg "min" = none)(c0v:∀d:DK,b3r P w K mg base CX0 1 (a5s d) "wires" ["self"] (d2d K a5s d))(a3r:Cal P w K mg base CX0 4 "deed_of_words" ["words"] (b3c K a5s))(b7m:∀d:MK,b3r P w K mg base CX0 4 (b7v d) "follow" ["self","deed"] (c8k K a5s b7v d))(b0x:Cal P w K mg base CX0 5 "deed_of" ["words","n"] (c6w K a5s))(b1c:Cal P w K mg base CX0 2 "letters_y" ["row"] (c3q K))(b4h:Cal P w K mg base CX0 3 "times" ["one","other"] (sp_times K))(c6d:Cal P w K mg base CX0 1 "widest" ["rows"] (sp_widest K))(a8j:Cal P w K mg base CX0 2 "places" ["number"] (sp_places K))(b2b:Cal P w K mg base CX0 4 "product_of" ["rows"] (c2a K))(c0d:Cal P w K mg base CX0 5 "made_of" ["rows","row"] (d2y K))(b4w:Cal P w K mg base CX0 2 "weight_of" ["row"] (c3n K))(a8p:∀d:MK,b3r P w K mg base CX0 6 (b7v d) "sure_value" ["self","row"] (b6h K b7v d))(b7k:∀d:MK,b3r P w K mg base CX0 4 (b7v d) "settle" ["self","row","value"] (c7b K b7v d))(b1y:Cal P w K mg base CX0 3 "check_look" ["row","n"] (c1f K))(a9x:Cal P w K mg base CX0 1 "value_drawn" ["draw"] (b8s K))(b4v:∀d:DK,b3r P w K mg base CX0 1 (a5s d) "undoing" ["self"] (c4e K a5s d))(c0b:∀d:DK,b3r P w K mg base CX0 1 (a5s d) "words" ["self"] (d3e K a5s d))(a4j:Cal P w K mg base CX0 6 "check_whole" ["rows","n"] (b8v K))(c6j:Cal P w K mg base CX0 5 "undone" ["work"] (sp_undone K a5s))(b7x:Cal P w K mg base CX0 1 "at_wires" ["row","wires"] (c7z K))(c5y:Cal P w K mg base CX0 4 "row_by" ["deeds","row"] (sp_row_by K a5s))(b7t:Cal P w K mg base CX0 6 "deeds_in" ["work","n"] (c9v K a5s))(a7a:Cal P w K mg base CX0 3 "work_to_one_z" ["row"] (b4z K))(a7y:Cal P w K mg base CX0 2 "has_sign" ["row","sign","n"] (c8j K))(a6b:Cal P w K mg base CX0 4 "without_sign" ["rows","sign","leading","n"] (b6z K))(d4b:d6v P w K mg base CX0 3 "Signs" (b7v .sg) ["self","n"] (a7u K b7v))(c0w:∀d:CK,b3r P w K mg base CX0 4 (b5m d) "guess" ["self","signs","many"] (d2j K a9v b5m d))(d2x:∀d:MK,b3r P w K mg base CX0 6 (b7v d) "do" ["self","words"] (sp_M_do K a5s b7v d))(c1r:∀d:MK,b3r P w K mg base CX0 1 (b7v d) "rows" ["self"] (sp_M_rows K b7v d))(c0u:∀d:MK,MCalN P w K mg base CX0 7 (b7v d) "look" ["self","row","draw"] (sp_M_look K b7v d))(c_made:Cal P w K mg base CX0 7 "made" ["rows","n"] (sp_made K))(b7h:Cal P w K mg base CX0 7 "telling" ["rows","n"] (d2q K))(b3f:Cal P w K mg base CX0 3 "deeds_of" ["row"] (c7k K))(k_Code:d6v P w K mg base CX0 7 "Code" (b5m .code) ["self","n","rows"] (a9g K a9v b5m))(a5d:∀d:CK,b3r P w K mg base CX0 6 (b5m d) "parting_wrongs" ["self","many"] (b0t K a9v b5m d))(b3w:Cal P w K mg base CX0 4 "_law_code" ["_law_script"] (c4c K))(a8h:Cal P w K mg base CX0 4 "_law_parting" ["_law_rows","_law_found","_law_n","_law_many"] (b5t K))(b1j:Cal P w K mg base CX0 2 "_law_wrong" ["_law_cell","_law_n","_law_many"] (c1x K))(a6g:Cal P w K mg base CX0 8 "_law_put_right" ["_law_code_here","_law_full","_law_rows","_law_n","_law_wrong_here","_law_many"] (b3h K a9v b5m))
include T_S in theorem c8n (F:Fun K "left_of" "Span.left_of" b2p f fd):a2n P w K mg base CX0 1 f fd ["self","number","which"] (b7b K a9v):=by
 refine F.ok a3p (by fail"ln") ?_;fail"fi";obtain⟨p,l,x,w,us,ss,rfl,⟨dx,as,hp,hl,hss,ok,hz⟩,hu,q⟩:=h
 refine⟨_,(@a0b _ _ _ _ _ (@a0q _ _ 3 _ _ _ _ a3p.nd rfl (Or.inl rfl) (pv 1) (by rfl) (by first|exact .inl rfl|exact .inr rfl|assumption))
   (@a0b _ _ _ _ _ (a4e A1d rfl (a1q (a3b (pv 0) rfl)) (b8n rfl (a2b (a1g (i:=4) a3p.nd rfl (Or.inl rfl)) (a2b (a1g (i:=5) a3p.nd rfl (Or.inl rfl)) (a2b (a1g (i:=6) a3p.nd rfl (Or.inl rfl)) b2m)))) (@a0f _ _ _ (@a2c _ _ _ _ _ _ _ _ (@a0v _ _ _ _ _ _ _ _ c5k (a0k a3f (pv 3) (pv 4)) a0h (a1d _)) (@a0b _ _ _ _ _ (@a0q _ _ 3 _ _ _ _ a3p.nd rfl (Or.inl rfl) (a0k a1t (pv 3) (pv 5)) (by rfl) (by first|exact .inl rfl|exact .inr rfl|assumption))
   (@a0f _ _ _ (@a0q _ _ 2 _ _ _ _ a3p.nd rfl (Or.inl rfl) (a0k a1t (pv 2) (pv 6)) (by rfl) (by first|exact .inl rfl|exact .inr rfl|assumption)))) a0x)))
   (@a0f _ _ _ (@a0t _ _ _ _ (@a1m _ _ _ _ _ (@a0a _ _ _ _ _ (pv 3) (@a0a _ _ _ _ _ (pv 2) a0c (by rfl)) (by rfl))))))),?_⟩
 fail"st";fail"go";refine b2q ?_;fail"go";refine a1y hp (T_S.cl _) (T_S.n_sums _) (b6u _ _) ?_;refine b1s (SqL.of hl) (fun i σ H'=>∃(u1 u2 u3:Option V),σ=[some (.ref p),some (.int x),some (.int ((red (ss.take i) x w).2:Int)),some (.int ((red (ss.take i) x w).1:Int)),u1,u2,u3]/\a1n H H') ⟨none,none,none,rfl,a1n.refl _⟩ ?_ ?_ ?_
 ·rintro i σ H' _ ⟨_,_,_,_,s⟩;exact SqL.of (s _ _ hl)
 ·rintro i y σ H' hy ⟨u1,u2,u3,rfl,s⟩;obtain⟨a,ha,rfl⟩:=a1r hy;obtain⟨sm,hsm,hsa⟩:=hss.get ha;have hsa':SqT K H' a [.int ((2^sm.j:Nat):Int),.int (sm.t:Int),.int (sm.p:Int)]:=SqT.of (s _ _ hsa);rw[red_at x w hsm];generalize red (ss.take i) x w=lw;obtain⟨lf,wh⟩:=lw;dsimp only;have hz:=and_pow_ne lf sm.j;fail"go"
  by_cases hb:lf.testBit sm.j=true
  ·simp only[if_pos hb];refine iteN (fun c=>?_) (fun c=>?_)
   ·fail"go";exact⟨_,_,_,rfl,s⟩
   ·rw[hz.mp c] at hb;cases hb
  ·simp only[if_neg hb];refine iteN (fun c=>(c (hz.mpr (eq_false_of_ne_true hb))).elim) (fun c=>?_);fail"go";exact⟨_,_,_,rfl,s⟩
 ·rintro σ H' ⟨u1,u2,u3,rfl,s⟩;fail"go";rename_i p2 hp2;rw[a0m,hss.len,A0t];exact q p2 _ (s.trans (a0e hp2 _)) a0d
theorem d6j (F:Fun K "lowest_bit" "lowest_bit" b7c f fd):a2n P w K mg base CX0 1 f fd ["number"] (c0s K):=by
 refine F.ok d4q (by fail"ln") ?_;fail"fi";obtain⟨v,rfl,hv,q⟩:=h;refine⟨_,(@a0f _ _ _ (@a0t _ _ _ _ (a0k a3f (pv 0) (pe_un un_neg (pv 0))))),?_⟩;fail"go";obtain⟨j,e,hj,lo⟩:=low_bit2 v hv
 have e2:A2e (v:Int) (-(v:Int))=((2^j:Nat):Int):=by
  unfold A2e;rw[decide_eq_true (show (0:Int)<=(v:Int) by omega),decide_eq_false (show ¬(0:Int) <= -(v:Int) by omega)];show (v:Int)-_=_
  have e3:(A6s (-(v:Int))).toNat=v-1:=by
   unfold A6s;omega
  rw[e3,A3t,<- e];have:=A4u (n:=v) (m:=v-1);omega
 rw[e2];exact q j hj lo
include T_S a6k a5j in theorem ok_Span_take (F:Fun K "take" "Span.take" b8z f fd):a2n P w K mg base CX0 2 f fd ["self","number"] (c3p K a9v):=by
 refine F.ok c3x (by fail"ln") ?_;fail"fi";obtain⟨p,l,x,us,ss,rfl,hS,hu,q⟩:=h
 refine⟨_,(@a0b _ _ _ _ _ (@a0q _ _ 2 _ _ _ _ c3x.nd rfl (Or.inl rfl) (b3p a6k hr a0r (pv 0) (@a0a _ _ _ _ _ (pv 1) (@a0a _ _ _ _ _ (a0k a3e a0h (a3b (pv 0) rfl)) a0c (by rfl)) (by rfl))) (by rfl) (by first|exact .inl rfl|exact .inr rfl|assumption))
   (@a0b _ _ _ _ _ (b5j (pv 0) (a0k a6x (a3b (pv 0) rfl) a0h) rfl)
   (@a0f _ _ _ (@a2c _ _ _ _ _ _ _ _ (@a0v _ _ _ _ _ _ _ _ c5k (@a0u _ _ _ _ _ _ _ a0p (pv 2) a0h (fun _ _=>rfl)) a0h (a1d _)) (@a0f _ _ _ (a1w (b8c A1j A1r A1s a4d (a3b (pv 0) rfl) (@a0a _ _ _ _ _ (@a1m _ _ _ _ _ (@a0a _ _ _ _ _ (a0y a5j hr a0r (@a0a _ _ _ _ _ (@a0u _ _ _ _ _ _ _ a0p (pv 2) a0h (fun _ _=>rfl)) a0c (by rfl))) (@a0a _ _ _ _ _ (@a0u _ _ _ _ _ _ _ a0p (pv 2) a0h (fun _ _=>rfl)) (@a0a _ _ _ _ _ (@a0u _ _ _ _ _ _ _ a0p (pv 2) a0h (fun _ _=>rfl)) a0c (by rfl)) (by rfl)) (by rfl))) a0c (by rfl))))) a0x)))),?_⟩
 fail"st";obtain⟨dx,as,hp,hl,hss,ok,hz⟩:=id hS;fail"go";refine a4r hp (b9g _ _ (by decide +kernel) (by decide +kernel)) ?_;fail"go";refine a1y hp (T_S.cl _) (T_S.n_taken _) (d2f _ _) ?_;fail"go";refine⟨p,l,x,2^us.length,us,ss,rfl,hS,hu,fun q2 H' s hq2=>?_⟩;have hp':=s _ _ hp;have hl':=s _ _ hl;have hss':=hss.mono fun a d (x:Sm3 H a d)=>s _ _ x;have key:=fun j hj=>d6x.take ok x j hj;generalize hr:red ss x (2^us.length)=lw at hq2 key;obtain⟨lf,wh⟩:=lw;dsimp only at hq2 key;fail"go";refine a1y hp' (T_S.cl _) (T_S.n_taken _) (d2f _ _) ?_;fail"go";refine a9q hp' (T_S.cl _) (T_S.n_taken _) (by show 2<1000;decide) ?_;rw[taken_put,show ((us.length:Nat):Int)+1=(((us++[x]).length:Nat):Int) from by rw[A0j];push_cast;rfl];have npl:l≠p:=a8x hl' hp' (by intro z;cases z);have B1:But p H' (upd H' p (.ins (a9v .span) dx (b3q l (((us++[x]).length:Nat):Int)))):=But.upd;have f_p:(upd H' p (.ins (a9v .span) dx (b3q l (((us++[x]).length:Nat):Int)))) p=some (.ins (a9v .span) dx (b3q l (((us++[x]).length:Nat):Int))):=a0d;generalize upd H' p (.ins (a9v .span) dx (b3q l (((us++[x]).length:Nat):Int)))=G at B1 f_p ⊢;have f_l:=B1 _ _ npl hl';have f_q:G q2=some (.tup [.int (lf:Int),.int (wh:Int)]):=B1 _ _ (a8x hq2 hp' (by intro z;cases z)) hq2;have f_s:=hss'.mono fun a d (x:Sm3 H' a d)=>(B1 _ _ (a8x x hp' (by intro z;cases z)) x:Sm3 G a d);have sq:SqT K G q2 [.int (lf:Int),.int (wh:Int)]:=SqT.of f_q;have oth1:∀c o,c≠p->H c=some o->G c=some o:=fun c o hc e=>B1 c o hc (s c o e);have lss:as.length=ss.length:=hss.len;fail"go";refine iteN (fun c=>?_) (fun c=>?_)
 ·have hlf:lf≠0:=fun z=>c (by rw[z];rfl);fail"go";refine a1y f_p (T_S.cl _) (T_S.n_sums _) (b6u _ _) ?_;have sl:SqL K G l (a1c as):=SqL.of f_l;have hle:(a1c as).length<=900:=by rw[a0m];omega
  fail"go";refine⟨lf,rfl,by omega,fun j hj _=>?_⟩;fail"go";rename_i p3 hp3;have S3:=a0e hp3 (.tup [.int ((2^j:Nat):Int),.int (lf:Int),.int (wh:Int)]);have w3:Sm3 (upd G p3 (.tup [.int ((2^j:Nat):Int),.int (lf:Int),.int (wh:Int)])) p3 ⟨j,lf,wh⟩:=a0d;generalize upd G p3 (.tup [.int ((2^j:Nat):Int),.int (lf:Int),.int (wh:Int)])=G3 at S3 w3 ⊢;have g_l:=S3 _ _ f_l;have k1:=key j fun _=>hj;rw[if_pos hlf] at k1;have B3:But l G3 (upd G3 l (.lst (a1c as++[.ref p3]))):=But.upd;refine q _ (ss++[⟨j,lf,wh⟩]) (fun c o h1 h2 e=>B3 c o h2 (S3 _ _ (oth1 c o h1 e))) ⟨dx,as++[p3],B3 _ _ (A4m npl) (S3 _ _ f_p),by rw[a0d,a2f],?_,k1,by rw[A0j,A0j];show _+1<=_+1;omega⟩ (by unfold Stp;rw[hr];exact .inl ⟨hlf,j,hj,rfl⟩);exact(f_s.mono fun a d (x:Sm3 G a d)=>(B3 _ _ (a8x (S3 _ _ x) g_l (by intro z;cases z)) (S3 _ _ x):Sm3 _ a d)).snoc (B3 _ _ (a8x w3 g_l (by intro z;cases z)) w3)
 ·have hlf:lf=0:=by omega
  fail"go";have k0:=key 0 fun z=>(z hlf).elim;rw[if_neg (fun z=>z hlf)] at k0;exact q _ ss (fun c o h1 _ e=>oth1 c o h1 e) ⟨dx,as,f_p,f_l,f_s,k0,by rw[A0j];show _<=_+1;omega⟩ (by unfold Stp;rw[hr];exact .inr ⟨hlf,rfl⟩)
include T_S c5v in theorem c5b (F:Fun K "__init__" "Span.__init__" b0w f fd):a2n P w K mg base CX0 3 f fd ["self","numbers"] (a9d K a9v):=by
 refine F.ok b5b (by fail"ln") ?_;fail"fi";obtain⟨p,n,dx,us,rfl,hp,hn,hu,q⟩:=h
 refine⟨_,(@a0b _ _ _ _ _ (b5j (pv 0) (@a5c _ _ _ _ a0c) rfl)
   (@a0b _ _ _ _ _ (b5j (pv 0) a0h rfl)
   (@a0f _ _ _ (a4e A1d rfl (a1q (pv 1)) (a1g (i:=2) b5b.nd rfl (Or.inl rfl)) (@a0f _ _ _ (a1w (b3p c5v hr a0r (pv 0) (@a0a _ _ _ _ _ (pv 2) a0c (by rfl))))))))),?_⟩
 fail"st";fail"go";rename_i l hl;have npl:p≠l:=fun z=>by rw[z,hl] at hp;cases hp
 refine a9q (by rw[a0w npl];exact hp) (T_S.cl _) (T_S.n_sums _) (by show 0<1000;decide) ?_;fail"go";refine a9q a0d (T_S.cl _) (T_S.n_taken _) (by show 1<1000;decide) ?_;rw[upd_upd,first_put];have f_p:(upd (upd H l (.lst [])) p (.ins (a9v .span) dx (b3q l 0))) p=some (.ins (a9v .span) dx (b3q l 0)):=a0d;have f_l:(upd (upd H l (.lst [])) p (.ins (a9v .span) dx (b3q l 0))) l=some (.lst (a1c [])):=by rw[a0w (A4m npl)];exact a0d
 have oth:∀c o,c≠p->H c=some o->(upd (upd H l (.lst [])) p (.ins (a9v .span) dx (b3q l 0))) c=some o:=fun c o hc e=>by rw[a0w hc];exact a0e hl _ _ _ e
 generalize upd (upd H l (.lst [])) p (.ins (a9v .span) dx (b3q l 0))=G at f_p f_l oth ⊢;have nnp:n≠p:=a8x hn hp (by intro z;cases z);fail"go";refine a4m (fun P h=>⟨_,rfl,h⟩) (SqL.of (oth _ _ nnp hn)) (fun i σ H'=>∃(u:Option V) (ss:List Sm),σ=[some (.ref p),some (.ref n),u]/\SnAt a9v H' p l (us.take i) ss/\(∀us0 x,us.take i=us0++[x]->∃ss0,d6x us0 ss0/\Stp us0 ss0 x ss)/\∀c o,c≠p->H c=some o->H' c=some o) ⟨none,[],rfl,⟨dx,[],f_p,f_l,.nil,d6x.nil,A0k _⟩,fun us0 x e=>by simp at e,oth⟩ ?_ ?_ ?_
 ·rintro i σ H' _ ⟨u,ss,_,_,_,o⟩;exact SqL.of (o _ _ nnp hn)
 ·rintro i y σ H' hy ⟨u,ss,rfl,hS,hL,o⟩;obtain⟨v,rfl,hv⟩:=vn_at hy;obtain⟨dx',as,hp',hl',hss,ok,hz⟩:=id hS;fail"go";refine a4r hp' (b9g _ _ (by decide +kernel) (by decide +kernel)) ?_;fail"go";refine⟨p,l,v,us.take i,ss,rfl,hS,by rw[A0q];omega,fun H2 ss' o2 hS2 hst=>?_⟩;fail"go"
  refine⟨_,ss',rfl,by rw[a0s hv];exact hS2,fun us0 x e=>by
   rw[a0s hv] at e;obtain⟨e1,e2⟩:=List.append_inj' e rfl;cases e2;rw[<- e1]
   exact⟨ss,ok,hst⟩,fun c ob hc e=>o2 c ob hc (fun z=>by rw[z,hl] at e;cases e) (o c ob hc e)⟩
 ·rintro σ H' ⟨u,ss,rfl,hS,hL,o⟩;rw[a6z,A0t] at hS hL;fail"go";exact q H' l ss o hl hS hL
theorem ok_ones (F:Fun K "ones" "ones" s_ones f fd):a2n P w K mg base CX0 1 f fd ["number"] (sp_ones K):=by
 refine F.ok c9u (by fail"ln") ?_;fail"fi";obtain⟨n,rfl,q⟩:=h
 refine⟨_,(@a0b _ _ _ _ _ (@a0q _ _ 1 _ _ _ _ c9u.nd rfl (Or.inl rfl) a0h (by rfl) (by first|exact .inl rfl|exact .inr rfl|assumption))
   (@a0b _ _ _ _ _ (@a0q _ _ 2 _ _ _ _ c9u.nd rfl (Or.inl rfl) (pv 0) (by rfl) (by first|exact .inl rfl|exact .inr rfl|assumption))
   (@a0b _ _ _ _ _ (ps_while A1d (@a0v _ _ _ _ _ _ _ _ op_gt (pv 2) a0h (a1d _)) (@a0b _ _ _ _ _ (@a0q _ _ 2 _ _ _ _ c9u.nd rfl (Or.inl rfl) (a0k a3f (pv 2) (a0k b3n (pv 2) a0h)) (by rfl) (by first|exact .inl rfl|exact .inr rfl|assumption))
   (@a0f _ _ _ (@a0q _ _ 1 _ _ _ _ c9u.nd rfl (Or.inl rfl) (a0k a6x (pv 1) a0h) (by rfl) (by first|exact .inl rfl|exact .inr rfl|assumption)))))
   (@a0f _ _ _ (@a0t _ _ _ _ (pv 1)))))),?_⟩
 fail"go";refine⟨fun m σ H'=>∃k r:Nat,σ=[some (.int n),some (.int k),some (.int r)]/\H'=H/\m=r/\k+pop r=pop n,⟨n,0,n,rfl,rfl,rfl,by omega⟩,?_⟩;rintro m σ H' ⟨k,r,rfl,rfl,rfl,e⟩;fail"go";refine b8w (fun c=>?_) (fun c=>?_)
 ·have c':0<m:=by omega
  refine⟨fun σ' H1=>∃k r:Nat,σ'=[some (.int n),some (.int k),some (.int r)]/\H1=H'/\r<m/\k+pop r=pop n,fun σ' H1 ⟨k,r,e1,e2,e3,e4⟩=>⟨r,e3,k,r,e1,e2,rfl,e4⟩,?_⟩;fail"go";rw[bitAnd_pred c'];have:=pop_pred m c';exact⟨k+1,m&&&(m-1),rfl,rfl,and_pred_lt c',by omega⟩
 ·have c':m=0:=by omega
  subst c';rw[a9t,Nat.add_zero] at e;subst e;fail"go";exact q
include a4t a4q a8r in theorem d0f (F:Fun K "goes_beside" "goes_beside" b3t f fd):a2n P w K mg base CX0 2 f fd ["one","other"] (b8k K):=by
 refine F.ok b8u (by fail"ln") ?_;fail"fi";obtain⟨a,b,r,t,rfl,ha,hb,q⟩:=h
 refine⟨_,(@a0b _ _ _ _ _ (@a0q _ _ 2 _ _ _ _ b8u.nd rfl (Or.inl rfl) (a0k a1t (a0k a3f (@a0u _ _ _ _ _ _ _ a0p (pv 0) (a1p a4t) (fun _ _=>rfl)) (@a0u _ _ _ _ _ _ _ a0p (pv 1) (a1p a4q) (fun _ _=>rfl))) (a0k a3f (@a0u _ _ _ _ _ _ _ a0p (pv 0) (a1p a4q) (fun _ _=>rfl)) (@a0u _ _ _ _ _ _ _ a0p (pv 1) (a1p a4t) (fun _ _=>rfl)))) (by rfl) (by first|exact .inl rfl|exact .inr rfl|assumption))
   (@a0f _ _ _ (@a0t _ _ _ _ (b2j a5t (a0k a6d (a0y a8r hr a0r (@a0a _ _ _ _ _ (pv 2) a0c (by rfl))) a0h) a0h (a1d _))))),?_⟩
 fail"st";unfold Row.V at ha hb;fail"go";refine⟨_,rfl,?_⟩;fail"go";have e:(((pop (crs r t):Nat):Int)%2=0)=(pop (crs r t)%2=0):=by apply propext;omega
 show Q (.bl (decide (((pop (crs r t):Nat):Int)%2=0))) H;simp only[e];exact q
include a9z a6p a2d in theorem d6m (F:Fun K "all_beside" "all_beside" a6u f fd):a2n P w K mg base CX0 3 f fd ["rows"] (c1h K):=by
 refine F.ok c0m (by fail"ln") ?_;fail"fi";obtain⟨l,as,rs,rfl,hl,hW,hz,q⟩:=h;refine⟨_,(@a0f _ _ _ (@a0t _ _ _ _ (a1x (a7p rfl) rfl a9z a9w (@a0a _ _ _ _ _ (pe_compN (sc:=a0g a6u) rfl ⟨rfl,by decide +kernel,fun _ _=>rfl,rfl,rfl,by decide +kernel,by decide +kernel,by decide +kernel,by decide +kernel⟩ (by show ("k":Str)∉(["rows"]:List Str);decide +kernel) (by show ("row":Str)∉(["rows"]:List Str);decide +kernel) (by decide +kernel) (by show (".0":Str)∉(["rows"]:List Str);decide +kernel) c0m.nd rfl (pi_enumL rfl a6p (@a0a _ _ _ _ _ (pv 0) a0c (by rfl))) (fun _ _ _ _=>a2q) (fun _ _ _ _=>(a1x (call_allBK (K:=K) rfl rfl) rfl a9z a9w (@a0a _ _ _ _ _ (a3d (sc:=Tw.relS (Tw.bodyScope a6u) (a0g a6u)) rfl (by fail"k5") (by show ("other":Str)∉(["k","row","rows"]:List Str);decide +kernel) (by show (".0":Str)∉(["k","row","rows"]:List Str);decide +kernel) (by show (["k","row","rows"]:List Str).Nodup;decide +kernel) rfl (pi_listK (K:=K) rfl (b1u (sl_listK (K:=K) rfl) (pv 2) b8x (b4g (pv 0)))) (fun _ _ _ _=>a2q) (fun _ _ _ _=>(a0y a2d hr a0r (@a0a _ _ _ _ _ (pv 2) (@a0a _ _ _ _ _ (pv 0) a0c (by rfl)) (by rfl))))) a0c (by rfl))))) a0c (by rfl))))),?_⟩;fail"st";fail"go";have lrs:as.length=rs.length:=hW.len;refine st_cpEn (fun P h=>?_) (SqL.of hl) (fun i ys H'=>a1n H H'/\ys=((A3a i).map (bsd rs)).map V.bl) (by rw[a0m];omega) ⟨a1n.refl _,rfl⟩ ?_ ?_ ?_ ?_
 ·fail"go";exact h
 ·rintro i ys H' ⟨_,rfl⟩;rw[A0b,A0b,A3w];exact A0k _
 ·rintro i ys H' ⟨s,_⟩;exact SqL.of (s _ _ hl)
 ·rintro i x ys H' p hx ⟨s,rfl⟩ hp;obtain⟨a,ha,rfl⟩:=a1r hx;obtain⟨r,hr,hra⟩:=hW.get ha;have S1:=s.trans (a0e hp (.tup [.int (i:Int),.ref a]));generalize upd H' p (.tup [.int (i:Int),.ref a])=G1 at S1 ⊢;have l1:SqL K G1 l (a1c as):=SqL.of (S1 _ _ hl);fail"go";refine st_cpE ?_;fail"go";rename_i p2 hp2;have et:c7g (a1c as) none (some (i:Int))=a1c (as.take i):=(cut_takeV _ _).trans (B1s ..).symm;rw[et];have S2:=S1.trans (a0e hp2 (.lst (a1c (as.take i))));have f2:(upd G1 p2 (.lst (a1c (as.take i)))) p2=some (.lst (a1c (as.take i))):=a0d;generalize upd G1 p2 (.lst (a1c (as.take i)))=G2 at S2 f2 ⊢;have W2:a2a (Rt K G2) as rs:=hW.mono fun a d x=>Rt.same S2 x;have hra2:SqT K G2 a r.V:=SqT.of (Rt.same S2 hra);have eb:rs.getD i ⟨0,0,0⟩=r:=by rw[List.getD_eq_getElem?_getD,hr];rfl
  refine st_cpAt (SqL.of f2) (fun j zs H'=>H'=G2/\zs=(((rs.take i).take j).map fun s=>!a2v r s).map V.bl) (by rw[a0m,A0q];omega) ⟨rfl,rfl⟩ ?_ ?_ ?_ ?_
  ·rintro j zs H' ⟨_,rfl⟩;rw[A0b,A0b,A0q];omega
  ·rintro j zs H' ⟨rfl,_⟩;exact SqL.of f2
  ·rintro j y zs H' hy ⟨rfl,rfl⟩;obtain⟨b,hb,rfl⟩:=a1r hy;obtain⟨t,ht,htb⟩:=(W2.take i).get hb;fail"go";refine⟨a,b,r,t,rfl,hra2,SqT.of htb,?_⟩;rw[bes_dec];refine⟨rfl,?_⟩;rw[a0s ht,A0f,A0f];rfl
  ·rintro zs H' ⟨rfl,rfl⟩ p3 hp3;fail"go";refine c1y (SqL.of a0d) ?_;refine⟨S2.trans (a0e hp3 _),?_⟩;rw[a0m,A0q,Nat.min_eq_left (by have:=(List.getElem?_eq_some_iff.1 ha).1;omega),List.take_take,Nat.min_self,A7h,A0f,A0f];show _=_++[V.bl (bsd rs i)];unfold bsd;rw[eb]
 ·rintro ys H' ⟨s,rfl⟩ p hp;rw[a0m,lrs];fail"go";refine c1y (SqL.of a0d) ?_;exact q _ (s.trans (a0e hp _))
include T_S a5v in theorem ok_Span_rank (F:Fun K "rank" "Span.rank" b9v f fd):a2n P w K mg base CX0 1 f fd ["self"] (c3z K a9v):=by
 refine F.ok sc_Span_rank (by fail"ln") ?_;fail"fi";obtain⟨p,l,us,ss,rfl,hS,hu,q⟩:=h;refine⟨_,(@a0f _ _ _ (@a0t _ _ _ _ (a1x a4s rfl a5v A3k (@a0a _ _ _ _ _ (a3b (pv 0) rfl) a0c (by rfl))))),?_⟩;fail"st";fail"go";obtain⟨dx,as,hp,hl,hss,ok,hz⟩:=hS;refine a1y hp (T_S.cl _) (T_S.n_sums _) (b6u _ _) ?_;have sl:SqL K H l (a1c as):=SqL.of hl;fail"go";rw[a0m,hss.len];exact q
include T_S a5v c5w b3a in theorem ok_are_apart (F:Fun K "are_apart" "are_apart" b9k f fd):a2n P w K mg base CX0 5 f fd ["numbers"] (c4g K):=by
 refine F.ok sc_are_apart (by fail"ln") ?_;fail"fi";obtain⟨l,us,rfl,hl,hu,q⟩:=h;refine⟨_,(@a0f _ _ _ (@a0t _ _ _ _ (b2j a5t (c9q c5w hr a0r (b5d b3a hr a0r (@a0a _ _ _ _ _ (pv 0) a0c (by rfl)))) (a1x a4s rfl a5v A3k (@a0a _ _ _ _ _ (pv 0) a0c (by rfl))) (a1d _)))),?_⟩;fail"st";fail"go";intro xo dx nx ndx nxd;refine⟨xo,l,dx,us,rfl,a0d,?_,hu,fun H5 l5 ss oth hl5 hS _=>⟨rfl,?_⟩⟩
 ·rw[a0w (a0j hl nx),a0w (a0j hl ndx)];exact hl
 have S5:a1n H H5:=fun c o e=>by
  have n1:c≠xo:=a0j e nx;have n2:c≠dx:=a0j e ndx;exact oth c o n1 (by rw[a0w n1,a0w n2];exact e)
 have l5':=S5 _ _ hl;obtain⟨dx',as',hp',hl',hss,ok,hz⟩:=id hS;refine a4r hp' (b9g _ _ (by decide +kernel) (by decide +kernel)) ?_;fail"go";refine⟨xo,l5,us,ss,rfl,hS,hu,?_⟩;have sl:SqL K H5 l (vn us):=SqL.of l5';fail"go";rw[a6z]
 have e:decide (((ss.length:Nat):Int)=((us.length:Nat):Int))=decide (ss.length=us.length):=by
  by_cases c:ss.length=us.length
  ·rw[decide_eq_true c,decide_eq_true (by rw[c])]
  ·rw[decide_eq_false c,decide_eq_false (by omega)]
 rw[e];exact q H5 ss S5 ok hz
include a1a d0e c9d in theorem c0f (F:Fun K "is_whole_number" "is_whole_number" a7s f fd):a2n P w K mg base CX0 1 f fd ["thing"] (a7f K):=by
 refine F.ok c2e (by fail"ln") ?_;fail"fi";obtain⟨v,b,rfl,⟨t,b1,b2,ty,e1,e2,rfl⟩,q⟩:=h;refine⟨_,(@a0f _ _ _ (@a0t _ _ _ _ (pe_and (b6w rfl a1a (pv 0) d0e d6g) (pe_one (pe_not (b6w rfl a1a (pv 0) c9d boot_bool)))))),?_⟩;fail"st";fail"go";refine d3c ty e1 ?_
 cases b1 with
 | false=>
  fail"go";exact q
 | true=>
  fail"go";refine d3c ty e2 ?_;fail"go";exact q
theorem ok_fits (F:Fun K "fits" "fits" s_fits f fd):a2n P w K mg base CX0 1 f fd ["number","n"] (sp_fits K):=by
 refine F.ok sc_fits (by fail"ln") ?_;fail"fi";obtain⟨x,n,rfl,hn,q⟩:=h;refine⟨_,(@a0f _ _ _ (@a0t _ _ _ _ (pe_and (b2j op_ge (pv 0) a0h (a1d _)) (pe_one (b2j op_lt (pv 0) (a0k a3e a0h (pv 1)) (a1d _)))))),?_⟩;fail"go";refine b8w (fun c=>?_) (fun c=>?_)
 ·fail"go"
  have e:decide (0<=x/\x<((2^n:Nat):Int))=decide (x<((2^n:Nat):Int)):=by
   by_cases h:x<((2^n:Nat):Int)
   ·rw[decide_eq_true h,decide_eq_true ⟨c,h⟩]
   ·rw[decide_eq_false h,decide_eq_false fun z=>h z.2]
  rw[e] at q;exact q
 ·rw[decide_eq_false fun z=>c z.1] at q;exact q
include a4t a4q a9z a5v a1a a5r a1s c_fits a1k in theorem d1h (F:Fun K "checked_row" "checked_row" b0b f fd):a2n P w K mg base (CXE P w) 2 f fd ["thing","n"] (b8t K):=by
 refine F.okE b8j (by fail"ln") (fun cdv A outer s H vs Q E hr h=>?_);obtain⟨a,n,r,rfl,ha,ok,hn,q⟩:=h
 refine⟨_,(@a0b _ _ _ _ _ (@a2c _ _ _ _ _ _ _ _ (PW.pt (b1h (a4g (a3t (b6w rfl a1a (pv 0) a5r b3m))) (b0y (@a0v _ _ _ _ _ _ _ _ c5k (a1x a4s rfl a5v A3k (@a0a _ _ _ _ _ (pv 0) a0c (by rfl))) a0h (a1d _))))) (@a0f _ _ _ a2h) a0x)
   (@a0b _ _ _ _ _ (@a2c _ _ _ _ _ _ _ _ (a4g (a3t (a1x (a7p rfl) rfl a9z a9w (@a0a _ _ _ _ _ (a3d (sc:=a0g b0b) rfl (by fail"k5") (by show ("part":Str)∉(["thing","n"]:List Str);decide +kernel) (by show (".0":Str)∉(["thing","n"]:List Str);decide +kernel) b8j.nd rfl (pi_tup (pv 0)) (fun _ _ _ _=>a2q) (fun _ _ _ _=>(a0y a1k hr a0r (@a0a _ _ _ _ _ (pv 0) a0c (by rfl))))) a0c (by rfl))))) (@a0f _ _ _ a2h) a0x)
   (@a0b _ _ _ _ _ (@a2c _ _ _ _ _ _ _ _ (PW.pt (pw_and (@a0v _ _ _ _ _ _ _ _ c5k (@a0u _ _ _ _ _ _ _ a0p (pv 0) (a1p a1s) (fun _ _=>rfl)) a0h (a1d _)) (pw_and1 (@a0v _ _ _ _ _ _ _ _ c5k (@a0u _ _ _ _ _ _ _ a0p (pv 0) (a1p a1s) (fun _ _=>rfl)) a0h (a1d _))))) (@a0f _ _ _ a2h) a0x)
   (@a0b _ _ _ _ _ (@a2c _ _ _ _ _ _ _ _ (PW.pt (b1h (a4g (a3t (a0y c_fits hr a0r (@a0a _ _ _ _ _ (@a0u _ _ _ _ _ _ _ a0p (pv 0) (a1p a4t) (fun _ _=>rfl)) (@a0a _ _ _ _ _ (pv 1) a0c (by rfl)) (by rfl))))) (b0y (a4g (a3t (a0y c_fits hr a0r (@a0a _ _ _ _ _ (@a0u _ _ _ _ _ _ _ a0p (pv 0) (a1p a4q) (fun _ _=>rfl)) (@a0a _ _ _ _ _ (pv 1) a0c (by rfl)) (by rfl)))))))) (@a0f _ _ _ a2h) a0x)
   (@a0f _ _ _ (@a0t _ _ _ _ (pv 0))))))),?_⟩
 fail"st";have ha':=SqT.of (K:=K) ha;unfold Row.V at ha';have ha2:=ha;unfold Row.V at ha2;fail"go";refine iteN (fun c=>(c rfl).elim) (fun _=>?_);fail"go";refine b3s (fun P h=>⟨_,rfl,h⟩) ha' (fun i ys H'=>H'=H/\ys=((r.V.take i).map wnB).map V.bl) (by show (3:Nat)<=1000;decide) ⟨rfl,rfl⟩ ?_ ?_ ?_ ?_
 ·rintro i ys H' ⟨rfl,rfl⟩;rw[A0b,A0b,A0q];omega
 ·rintro i ys H' ⟨rfl,rfl⟩;exact ha'
 ·rintro i x ys H' hx ⟨rfl,rfl⟩;fail"go";refine⟨x,wnB x,rfl,WN.flat K _ (okV_flat (all_get (d3s r) hx)),rfl,?_⟩;rw[a0s (xs:=r.V) hx,A0f,A0f];rfl
 ·rintro ys H' ⟨rfl,rfl⟩ p2 hp2;fail"go";refine c1y (bs:=(r.V.take 3).map wnB) (SqL.of a0d) ?_;rw[show ((r.V.take 3).map wnB).all id=true from rfl];have S1:=a0e hp2 (.lst (((r.V.take 3).map wnB).map V.bl));have ha3:=S1.tup ha';have om:=ok.m;have ox:=ok.x;have oz:=ok.z;fail"go"
  by_cases hm0:(r.m:Int)=0
  ·rw[decide_eq_true hm0];fail"go";refine⟨(r.x:Int),n,rfl,by omega,?_⟩;fail"go";refine iteN (fun c=>(c ⟨by omega,Int.ofNat_lt.mpr ox⟩).elim) (fun _=>?_);fail"go";refine⟨(r.z:Int),n,rfl,by omega,?_⟩;fail"go";refine iteN (fun c=>(c ⟨by omega,Int.ofNat_lt.mpr oz⟩).elim) (fun _=>?_);fail"go";exact q _ S1
  ·rw[decide_eq_false hm0];fail"go";have hm1:(r.m:Int)=1:=by omega
   rw[decide_eq_true hm1];fail"go";refine⟨(r.x:Int),n,rfl,by omega,?_⟩;fail"go";refine iteN (fun c=>(c ⟨by omega,Int.ofNat_lt.mpr ox⟩).elim) (fun _=>?_);fail"go";refine⟨(r.z:Int),n,rfl,by omega,?_⟩;fail"go";refine iteN (fun c=>(c ⟨by omega,Int.ofNat_lt.mpr oz⟩).elim) (fun _=>?_);fail"go";exact q _ S1
include c_NoRow a4h in theorem ok_is_row (F:Fun K "is_row" "is_row" d5e f fd):a2n P w K mg base CX0 3 f fd ["thing","n"] (sp_is_row K):=by
 refine F.ok sc_is_row (by fail"ln") ?_;fail"fi";obtain⟨a,n,r,rfl,ha,ok,hn,q⟩:=h
 refine⟨_,(@a0b _ _ _ _ _ (ps_tryQ (psx_expr (pex_fn a4h hr (@a0a _ _ _ _ _ (pv 0) (@a0a _ _ _ _ _ (pv 1) a0c (by rfl)) (by rfl)))))
   (@a0f _ _ _ (@a0t _ _ _ _ c2n))),?_⟩
 fail"go";refine⟨a,n,r,rfl,ha,ok,hn,fun H' s=>?_⟩;fail"go";exact q H' s
include a4t a4q in theorem c8w (F:Fun K "signs_number" "signs_number" b2x f fd):a2n P w K mg base CX0 1 f fd ["row","n"] (b5y K):=by
 refine F.ok c7e (by fail"ln") ?_;fail"fi";obtain⟨a,n,r,rfl,ha,hx,hz,hn,q⟩:=h;refine⟨_,(@a0f _ _ _ (@a0t _ _ _ _ (a0k c3e (@a0u _ _ _ _ _ _ _ a0p (pv 0) (a1p a4t) (fun _ _=>rfl)) (a0k a3e (@a0u _ _ _ _ _ _ _ a0p (pv 0) (a1p a4q) (fun _ _=>rfl)) (pv 1))))),?_⟩;fail"st";unfold Row.V at ha;rw[<- or_sn hx] at q;fail"go";refine st_i ⟨by omega,by omega,by rw[A9c];exact Nat.lt_trans hz (by decide)⟩ ?_;rw[A3t,show (r.z:Int)*2^n=((r.z*2^n:Nat):Int) from by push_cast;rfl];fail"go";exact q
include a9z a5v a1a a1k a3x a5e a6q a4v b3y a0z in theorem d4s (F:Fun K "check_code" "check_code" a8w f fd):a2n P w K mg base CX0 6 f fd ["n","rows"] (c1k K):=by
 refine F.ok b4f (by fail"ln") ?_;fail"fi";obtain⟨n,l,as,rs,rfl,h0,h9,hl,hW,hC,q⟩:=h
 refine⟨_,(@a0b _ _ _ _ _ (@a2c _ _ _ _ _ _ _ _ (PW.pt (b1h (a4g (a3t (a0y a1k hr a0r (@a0a _ _ _ _ _ (pv 0) a0c (by rfl))))) (b1h (@a0v _ _ _ _ _ _ _ _ op_lt (pv 0) a0h (a1d _)) (b0y (@a0v _ _ _ _ _ _ _ _ op_gt (pv 0) (a1p a3x) (a1d _)))))) (@a0f _ _ _ a2h) a0x)
   (@a0b _ _ _ _ _ (@a2c _ _ _ _ _ _ _ _ (PW.pt (b1h (a4g (a3t (b6w rfl a1a (pv 1) a4v a8y))) (b0y (@a0v _ _ _ _ _ _ _ _ op_gt (a1x a4s rfl a5v A3k (@a0a _ _ _ _ _ (pv 1) a0c (by rfl))) (pv 0) (a1d _))))) (@a0f _ _ _ a2h) a0x)
   (@a0b _ _ _ _ _ (@a2c _ _ _ _ _ _ _ _ (a4g (a3t (a1x (a7p rfl) rfl a9z a9w (@a0a _ _ _ _ _ (a3d (sc:=a0g a8w) rfl (by fail"k5") (by show ("row":Str)∉(["n","rows"]:List Str);decide +kernel) (by show (".0":Str)∉(["n","rows"]:List Str);decide +kernel) b4f.nd rfl (a1q (pv 1)) (fun _ _ _ _=>a2q) (fun _ _ _ _=>(a0y b3y hr a0r (@a0a _ _ _ _ _ (pv 0) (@a0a _ _ _ _ _ (pv 1) a0c (by rfl)) (by rfl))))) a0c (by rfl))))) (@a0f _ _ _ a2h) a0x)
   (@a0b _ _ _ _ _ (@a2c _ _ _ _ _ _ _ _ (a4g (a3t (a0y a5e hr a0r (@a0a _ _ _ _ _ (pv 1) a0c (by rfl))))) (@a0f _ _ _ a2h) a0x)
   (@a0f _ _ _ (@a2c _ _ _ _ _ _ _ _ (a4g (a3t (a0y a6q hr a0r (@a0a _ _ _ _ _ (a3d (sc:=a0g a8w) rfl (by fail"k5") (by show ("row":Str)∉(["n","rows"]:List Str);decide +kernel) (by show (".0":Str)∉(["n","rows"]:List Str);decide +kernel) b4f.nd rfl (a1q (pv 1)) (fun _ _ _ _=>a2q) (fun _ _ _ _=>(a0y a0z hr a0r (@a0a _ _ _ _ _ (pv 0) (@a0a _ _ _ _ _ (pv 1) a0c (by rfl)) (by rfl))))) a0c (by rfl))))) (@a0f _ _ _ a2h) a0x)))))),?_⟩
 fail"st";have lrs:as.length=rs.length:=hW.len;have lrn:=hC.len;fail"go";refine⟨.int n,true,rfl,WN.flat K _ rfl,?_⟩;fail"go";refine b8w (fun c=>absurd c (by omega)) (fun _=>?_);fail"go";refine b8w (fun c=>absurd c (by omega)) (fun _=>?_);fail"go";refine b8w (fun c=>absurd c (by rw[a0m];omega)) (fun _=>?_);fail"go";refine a1z (fun P h=>⟨_,rfl,h⟩) (SqL.of hl) (fun i ys H'=>a1n H H'/\ys=(A1u i true).map V.bl) (by rw[a0m];omega) ⟨a1n.refl _,rfl⟩ ?_ ?_ ?_ ?_
 ·rintro i ys H' ⟨_,rfl⟩;rw[A0b,A4e];exact A0k _
 ·rintro i ys H' ⟨s,_⟩;exact SqL.of (s _ _ hl)
 ·rintro i x ys H' hx ⟨s,rfl⟩;obtain⟨a,ha,rfl⟩:=a1r hx;obtain⟨r,hr,hra⟩:=hW.get ha;fail"go";refine⟨a,n,r,rfl,Rt.same s hra,hC.ok r (List.mem_of_getElem? hr),by omega,fun H2 s2=>⟨s.trans s2,?_⟩⟩;rw[A5b,A0f];rfl
 ·rintro ys H1 ⟨s1,rfl⟩ p1 hp1;fail"go";refine c1y (SqL.of a0d) ?_;rw[c8m];have S1:=s1.trans (a0e hp1 (.lst ((A1u (a1c as).length true).map V.bl)));generalize upd H1 p1 (.lst ((A1u (a1c as).length true).map V.bl))=G1 at S1 ⊢;fail"go";refine⟨l,as,rs,rfl,S1 _ _ hl,hW.mono fun a d x=>Rt.same S1 x,by omega,fun H2 s2=>?_⟩;rw[allB_true hC.com];have S2:=S1.trans s2;have W2:a2a (Rt K H2) as rs:=hW.mono fun a d x=>Rt.same S2 x;fail"go";refine a1z (fun P h=>⟨_,rfl,h⟩) (SqL.of (S2 _ _ hl)) (fun i ys H'=>H'=H2/\ys=vn ((rs.take i).map (sn n))) (by rw[a0m];omega) ⟨rfl,rfl⟩ ?_ ?_ ?_ ?_
  ·rintro i ys H' ⟨_,rfl⟩;rw[a6z,A0b,A0q];omega
  ·rintro i ys H' ⟨rfl,_⟩;exact SqL.of (S2 _ _ hl)
  ·rintro i x ys H' hx ⟨rfl,rfl⟩;obtain⟨b,hb,rfl⟩:=a1r hx;obtain⟨r,hr,hrb⟩:=W2.get hb;have ok:=hC.ok r (List.mem_of_getElem? hr);fail"go";refine⟨b,n,r,rfl,SqT.of hrb,ok.x,(ok.to40 (by omega)).z,by omega,rfl,?_⟩;rw[a0s hr,A0f,<- c2c];rfl
  ·rintro ys H' ⟨rfl,rfl⟩ p4 hp4;rw[a0m,lrs,A0t];have S4:=S2.trans (a0e hp4 (.lst (vn (rs.map (sn n)))));have f4:(upd H' p4 (.lst (vn (rs.map (sn n))))) p4=some (.lst (vn (rs.map (sn n)))):=a0d;generalize upd H' p4 (.lst (vn (rs.map (sn n))))=H4 at S4 f4 ⊢;fail"go";refine⟨p4,rs.map (sn n),rfl,f4,by rw[A0b];omega,fun H5 ss s5 ok hz=>?_⟩;rw[decide_eq_true (hC.all ok hz)];fail"go";exact q H5 (S4.trans s5)
include T_S b3a a4v a0z T_C b1m in theorem c5m (F:Fun K "__init__" "Code.__init__" a7c f fd):a2n P w K mg base CX0 7 f fd ["self","n","rows"] (a9g K a9v b5m):=by
 refine F.ok b5e (by fail"ln") ?_;fail"fi";obtain⟨p,n,l,dx,as,rs,rfl,hp,h0,h9,hl,hW,hC,q⟩:=h
 refine⟨_,(@a0b _ _ _ _ _ (a1w (a0y b1m hr a0r (@a0a _ _ _ _ _ (pv 1) (@a0a _ _ _ _ _ (pv 2) a0c (by rfl)) (by rfl))))
   (@a0b _ _ _ _ _ (b5j (pv 0) (pv 1) rfl)
   (@a0b _ _ _ _ _ (b5j (pv 0) (a9a b0d rfl a4v a8y (@a0a _ _ _ _ _ (pv 2) a0c (by rfl))) rfl)
   (@a0f _ _ _ (b5j (pv 0) (b5d b3a hr a0r (@a0a _ _ _ _ _ (a3d (sc:=a0g a7c) rfl (by fail"k5") (by show ("row":Str)∉(["self","n","rows"]:List Str);decide +kernel) (by show (".0":Str)∉(["self","n","rows"]:List Str);decide +kernel) b5e.nd rfl (a1q (pv 2)) (fun _ _ _ _=>a2q) (fun _ _ _ _=>(a0y a0z hr a0r (@a0a _ _ _ _ _ (pv 0) (@a0a _ _ _ _ _ (pv 2) a0c (by rfl)) (by rfl))))) a0c (by rfl))) rfl))))),?_⟩
 fail"st";fail"go";refine⟨n,l,as,rs,rfl,h0,h9,hl,hW,hC,fun H1 s1=>?_⟩;fail"go";refine a9q (s1 _ _ hp) (T_C.cl _) (T_C.n_n _) (by show 0<1000;decide) ?_;have B1:But p H1 (upd H1 p (.ins (b5m .code) dx (b2t "n" (.int (n:Int)) []))):=But.upd;have f1:(upd H1 p (.ins (b5m .code) dx (b2t "n" (.int (n:Int)) []))) p=some (.ins (b5m .code) dx (b2t "n" (.int (n:Int)) [])):=a0d;generalize upd H1 p (.ins (b5m .code) dx (b2t "n" (.int (n:Int)) []))=G1 at B1 f1 ⊢;have o1:∀c o,c≠p->H c=some o->G1 c=some o:=fun c o hc e=>B1 c o hc (s1 c o e);have nlp:l≠p:=a8x hl hp (by intro z;cases z);have l1:=o1 _ _ nlp hl;have W1:a2a (Rt K G1) as rs:=hW.mono fun a d (x:Rt K H a d)=>(o1 _ _ (a8x x hp (by intro z;cases z)) x:Rt K G1 a d);fail"go";refine⟨l,a1c as,rfl,.inl (SqL.of l1),fun pc hpc=>?_⟩;have S2:=a0e hpc (.lst (a1c as));have f2c:(upd G1 pc (.lst (a1c as))) pc=some (.lst (a1c as)):=a0d;generalize upd G1 pc (.lst (a1c as))=G2 at S2 f2c ⊢;have f2:=S2 _ _ f1;have l2:=S2 _ _ l1;have W2:=W1.mono fun a d (x:Rt K G1 a d)=>Rt.same S2 x;have npc:pc≠p:=a8x f2c f2 (by intro z;cases z);fail"go";refine a9q f2 (T_C.cl _) (T_C.n_checks _) (by show 1<1000;decide) ?_;have B3:But p G2 (upd G2 p (.ins (b5m .code) dx (b2t "checks" (.ref pc) (b2t "n" (.int (n:Int)) [])))):=But.upd;have f3:(upd G2 p (.ins (b5m .code) dx (b2t "checks" (.ref pc) (b2t "n" (.int (n:Int)) [])))) p=some (.ins (b5m .code) dx (b2t "checks" (.ref pc) (b2t "n" (.int (n:Int)) []))):=a0d;generalize upd G2 p (.ins (b5m .code) dx (b2t "checks" (.ref pc) (b2t "n" (.int (n:Int)) [])))=G3 at B3 f3 ⊢;have o3:∀c o,c≠p->H c=some o->G3 c=some o:=fun c o hc e=>B3 c o hc (S2 _ _ (o1 c o hc e));have f3c:=B3 _ _ npc f2c;have l3:=B3 _ _ nlp l2;have W3:a2a (Rt K G3) as rs:=W2.mono fun a d (x:Rt K G2 a d)=>(B3 _ _ (a8x x f2 (by intro z;cases z)) x:Rt K G3 a d);have lrs:as.length=rs.length:=hW.len;have lrn:=hC.len;clear W1 W2 l1 l2 B1 B3 S2 f1 f2 f2c;fail"go";refine a1z (fun P h=>⟨_,rfl,h⟩) (SqL.of l3) (fun i ys H'=>H'=G3/\ys=vn ((rs.take i).map (sn n))) (by rw[a0m];omega) ⟨rfl,rfl⟩ ?_ ?_ ?_ ?_
 ·rintro i ys H' ⟨_,rfl⟩;rw[a6z,A0b,A0q];omega
 ·rintro i ys H' ⟨rfl,_⟩;exact SqL.of l3
 ·rintro i x ys H' hx ⟨rfl,rfl⟩;obtain⟨b,hb,rfl⟩:=a1r hx;obtain⟨r,hr,hrb⟩:=W3.get hb;have ok:=hC.ok r (List.mem_of_getElem? hr);fail"go";refine⟨b,n,r,rfl,SqT.of hrb,ok.x,(ok.to40 (by omega)).z,by omega,rfl,?_⟩;rw[a0s hr,A0f,<- c2c];rfl
 ·rintro ys H' ⟨rfl,rfl⟩ p4 hp4;rw[a0m,lrs,A0t];have S4:=a0e hp4 (.lst (vn (rs.map (sn n))));have f4:(upd H' p4 (.lst (vn (rs.map (sn n))))) p4=some (.lst (vn (rs.map (sn n)))):=a0d;generalize upd H' p4 (.lst (vn (rs.map (sn n))))=H4 at S4 f4 ⊢;have g4:=S4 _ _ f3;fail"go";intro xo dx5 nx ndx nxd;refine⟨xo,p4,dx5,rs.map (sn n),rfl,a0d,?_,by rw[A0b];omega,fun H5 l5 ss oth hl5 hS _=>⟨rfl,?_⟩⟩
  ·rw[a0w (a0j f4 nx),a0w (a0j f4 ndx)];exact f4
  have S5:a1n H4 H5:=fun c ob e=>oth c ob (a0j e nx) (by rw[a0w (a0j e nx),a0w (a0j e ndx)];exact e);have g5:=S5 _ _ g4;have npx:p≠xo:=a0j g4 nx;fail"go";refine a9q g5 (T_C.cl _) (T_C.n_span _) (by show 2<1000;decide) ?_;rw[all_puts];have B6:But p H5 (upd H5 p (.ins (b5m .code) dx (c7x n pc xo))):=But.upd;refine q _ (fun c o hc e=>B6 c o hc (S5 _ _ (S4 _ _ (o3 c o hc e)))) ⟨dx,pc,xo,l5,as,ss,a0d,B6 _ _ npc (S5 _ _ (S4 _ _ f3c)),W3.mono fun a d (x:Rt K H' a d)=>(B6 _ _ (a8x x f3 (by intro z;cases z)) (S5 _ _ (S4 _ _ x)):Rt K _ a d),hS.but B6 g5 (A4m npx)⟩
include a6k in theorem c5h (F:Fun K "parts_of" "Span.parts_of" b0u f fd):a2n P w K mg base CX0 2 f fd ["self","number"] (b5a K a9v):=by
 refine F.ok b5h (by fail"ln") ?_;fail"fi";obtain⟨p,l,x,us,ss,rfl,hS,hu,q⟩:=h
 refine⟨_,(@a0b _ _ _ _ _ (@a0q _ _ 2 _ _ _ _ b5h.nd rfl (Or.inl rfl) (b3p a6k hr a0r (pv 0) (@a0a _ _ _ _ _ (pv 1) (@a0a _ _ _ _ _ a0h a0c (by rfl)) (by rfl))) (by rfl) (by first|exact .inl rfl|exact .inr rfl|assumption))
   (@a0f _ _ _ (@a0t _ _ _ _ (c6k (@a0v _ _ _ _ _ _ _ _ a5t (@a0u _ _ _ _ _ _ _ a0p (pv 2) a0h (fun _ _=>rfl)) a0h (a1d _)) (@a0u _ _ _ _ _ _ _ a0p (pv 2) a0h (fun _ _=>rfl)) c1q)))),?_⟩
 fail"st";obtain⟨dx,as,hp,hl,hss,ok,hz⟩:=id hS;fail"go";refine a4r hp (b9g _ _ (by decide +kernel) (by decide +kernel)) ?_;fail"go";refine⟨p,l,x,0,us,ss,rfl,hS,hu,fun q2 H' s hq2=>?_⟩;have hq':SqT K H' q2 [.int ((red ss x 0).1:Int),.int ((red ss x 0).2:Int)]:=SqT.of hq2;fail"go";refine b8w (fun c=>?_) (fun c=>?_)
 ·fail"go";exact(q H' s).1 (by omega)
 ·fail"go";exact(q H' s).2 (by omega)
include a0z T_C a5g in theorem c4t (F:Fun K "harmless" "Code.harmless" b1b f fd):a2n P w K mg base CX0 3 f fd ["self","wrong"] (b4y K a9v b5m):=by
 refine F.ok c4s (by fail"ln") ?_;fail"fi";obtain⟨p,w,n,rs,u,rfl,hC,hw,ok,hn,hl,q⟩:=h;refine⟨_,(@a0f _ _ _ (@a0t _ _ _ _ (b2j op_notN (b3p a5g hr a0r (a3b (pv 0) rfl) (@a0a _ _ _ _ _ (a0y a0z hr a0r (@a0a _ _ _ _ _ (pv 1) (@a0a _ _ _ _ _ (a3b (pv 0) rfl) a0c (by rfl)) (by rfl))) a0c (by rfl))) c1q (a1d _)))),?_⟩;fail"st";obtain⟨dx,lc,sp,ls,as,ss,hp,hlc,hW,hS⟩:=id hC;obtain⟨dx5,as5,hp5,_,_,okS,_⟩:=id hS;fail"go";refine a1y hp (T_C.cl _) (T_C.n_span _) (look_span _ _ _) ?_;fail"go";refine a4r hp5 (b9g _ _ (by decide +kernel) (by decide +kernel)) ?_;fail"go";refine a1y hp (T_C.cl _) (T_C.n_n _) (d2z _ _ _) ?_;fail"go";refine⟨w,n,u,rfl,SqT.of hw,ok.x,(ok.to40 (by omega)).z,by omega,?_⟩;fail"go";refine⟨sp,ls,sn n u,rs.map (sn n),ss,rfl,hS,by rw[A0b];omega,fun H6 s6=>⟨fun e0=>?_,fun e0=>?_⟩⟩
 ·fail"go";refine⟨rfl,?_⟩;rw[decide_eq_false (by intro z;cases z)];exact q true H6 s6 ⟨fun _=>(okS.spn _).1 e0,fun _=>rfl⟩
 ·fail"go";refine⟨rfl,?_⟩;rw[decide_eq_true rfl];exact q false H6 s6 ⟨fun z=>(by cases z),fun z=>(e0 ((okS.spn _).2 z)).elim⟩
include a2d T_C in theorem d5s (F:Fun K "signs" "Code.signs" b1k f fd):a2n P w K mg base CX0 3 f fd ["self","wrong"] (b9x K a9v b5m):=by
 refine F.ok c0e (by fail"ln") ?_;fail"fi";obtain⟨p,w,n,rs,u,rfl,hC,hw,hl,q⟩:=h;refine⟨_,(@a0f _ _ _ (@a0t _ _ _ _ (a3d (sc:=a0g b1k) rfl (by fail"k5") (by show ("row":Str)∉(["self","wrong"]:List Str);decide +kernel) (by show (".0":Str)∉(["self","wrong"]:List Str);decide +kernel) c0e.nd rfl (a1q (a3b (pv 0) rfl)) (fun _ _ _ _=>a2q) (fun _ _ _ _=>(c6k (a3t (a0y a2d hr a0r (@a0a _ _ _ _ _ (pv 0) (@a0a _ _ _ _ _ (pv 2) a0c (by rfl)) (by rfl)))) a0h a0h))))),?_⟩;fail"st";obtain⟨dx,lc,sp,ls,as,ss,hp,hlc,hW,hS⟩:=id hC;have lrs:as.length=rs.length:=hW.len;fail"go";refine st_cpE ?_;fail"go";refine a1y hp (T_C.cl _) (T_C.n_checks _) (c7y _ _ _) ?_;refine st_cpAt (SqL.of hlc) (fun i ys H'=>H'=H/\ys=vn ((rs.take i).map fun r=>(a2v r u).toNat)) (by rw[a0m];omega) ⟨rfl,rfl⟩ ?_ ?_ ?_ ?_
 ·rintro i ys H' ⟨_,rfl⟩;rw[a6z,A0b,A0q];omega
 ·rintro i ys H' ⟨rfl,_⟩;exact SqL.of hlc
 ·rintro i x ys H' hx ⟨rfl,rfl⟩;obtain⟨b,hb,rfl⟩:=a1r hx;obtain⟨r,hr,hrb⟩:=hW.get hb;fail"go";refine⟨b,w,r,u,rfl,SqT.of hrb,SqT.of hw,?_⟩;rw[bes_dec,a0s hr,A0f,<- c2c];cases e:a2v r u
  ·fail"go";refine⟨rfl,?_⟩;rw[A3y,e];rfl
  ·fail"go";refine⟨rfl,?_⟩;rw[A3y,e];rfl
 ·rintro ys H' ⟨rfl,rfl⟩ p4 hp4;rw[a0m,lrs,A0t];fail"go";exact q p4 hp4
include T_S a8r a7v in theorem b6b (F:Fun K "odd_with_last" "Span.odd_with_last" a5w f fd):a2n P w K mg base CX0 2 f fd ["self"] (a8u K a9v):=by
 refine F.ok a2g (by fail"ln") ?_;fail"fi";obtain⟨p,l,us,ss0,s',rfl,hS,hu,q⟩:=h
 refine⟨_,(@a0b _ _ _ _ _ (@a0q _ _ 1 _ _ _ _ a2g.nd rfl (Or.inl rfl) (@a0u _ _ _ _ _ _ _ a0p (@a0u _ _ _ _ _ _ _ b3u (a3b (pv 0) rfl) (pe_un un_neg a0h) (fun _ _=>rfl)) a0h (fun _ _=>rfl)) (by rfl) (by first|exact .inl rfl|exact .inr rfl|assumption))
   (@a0b _ _ _ _ _ (a4e A1d rfl (pi_rev rfl a7v (@a0a _ _ _ _ _ (b1u c3m (a3b (pv 0) rfl) b8x (b4g (pe_un un_neg a0h))) a0c (by rfl))) (b8n rfl (a2b (a1g (i:=2) a2g.nd rfl (Or.inl rfl)) (a2b (a1g (i:=3) a2g.nd rfl (Or.inl rfl)) (a2b (a1g (i:=4) a2g.nd rfl (Or.inl rfl)) b2m)))) (@a0f _ _ _ (@a2c _ _ _ _ _ _ _ _ (@a0v _ _ _ _ _ _ _ _ a5t (a0k a6d (a0y a8r hr a0r (@a0a _ _ _ _ _ (a0k a3f (pv 1) (pv 3)) a0c (by rfl))) a0h) a0h (a1d _)) (@a0f _ _ _ (@a0q _ _ 1 _ _ _ _ a2g.nd rfl (Or.inl rfl) (a0k a1t (pv 1) (pv 2)) (by rfl) (by first|exact .inl rfl|exact .inr rfl|assumption))) a0x)))
   (@a0f _ _ _ (@a0t _ _ _ _ (pv 1))))),?_⟩
 fail"st";obtain⟨dx,as,hp,hl,hss,ok,hz⟩:=id hS;obtain⟨bs,b,rfl,hbs,hb⟩:=hss.unsnoc;have sl:SqL K H l (a1c (bs++[b])):=SqL.of hl;have sb:SqT K H b [.int ((2^s'.j:Nat):Int),.int (s'.t:Int),.int (s'.p:Int)]:=SqT.of hb;have hlast:atI (a1c (bs++[b])) (-1)=some (.ref b):=by rw[<- a2f];exact atI_last _ _
 have lbs:bs.length=ss0.length:=hbs.len;rw[A0j,A3e] at hz;fail"go";refine a1y hp (T_S.cl _) (T_S.n_sums _) (b6u _ _) ?_;fail"go";refine st_bkE ?_;fail"go";refine a1y hp (T_S.cl _) (T_S.n_sums _) (b6u _ _) ?_;fail"go";rename_i p2 h2;have ec:c7g (a1c (bs++[b])) none (some (-1))=a1c bs:=by rw[<- a2f];exact cut_init _ _
 rw[ec];have n2:=a0e h2 (.lst (a1c bs));have f2:(upd H p2 (.lst (a1c bs))) p2=some (.lst (a1c bs)):=a0d;generalize upd H p2 (.lst (a1c bs))=G at n2 f2 ⊢;have hbG:=hbs.mono fun a d (x:Sm3 H a d)=>(n2 _ _ x:Sm3 G a d);refine st_bkAt (SqL.of f2) (fun i σ H'=>∃(u2 u3 u4:Option V),σ=[some (.ref p),some (.int ((odl (2^s'.j) (ss0.drop (ss0.length-i)):Nat):Int)),u2,u3,u4]/\H'=G) ⟨none,none,none,by rw[B2f,List.drop_length];rfl,rfl⟩ ?_ ?_ ?_
 ·rintro i σ H' _ ⟨_,_,_,_,rfl⟩;exact SqL.of f2
 ·rintro i y σ H' hi hy ⟨u2,u3,u4,rfl,rfl⟩;have hy':(a1c bs.reverse)[i]? = some y:=by unfold a1c;rw[A8a];exact hy
  obtain⟨a,ha,rfl⟩:=a1r hy';obtain⟨sm,hsm,hsa⟩:=hbG.rev.get ha;have hsa':SqT K H' a [.int ((2^sm.j:Nat):Int),.int (sm.t:Int),.int (sm.p:Int)]:=SqT.of hsa;rw[odl_snoc hsm];generalize odl (2^s'.j) (ss0.drop (ss0.length-i))=ff;fail"go";refine⟨ff&&&sm.t,rfl,?_⟩;fail"go";rw[pb_dec]
  cases hpb:pb (ff&&&sm.t) with
  | true=>
   fail"go";rw[if_pos rfl];exact⟨_,_,_,rfl,rfl⟩
  | false=>
   fail"go";rw[if_neg (by decide)];exact⟨_,_,_,rfl,rfl⟩
 ·rintro σ H' ⟨u2,u3,u4,rfl,rfl⟩;rw[a0m,lbs,Nat.sub_self,List.drop_zero];fail"go";exact q _ n2
include T_S a4t a4q b3a a0z T_C a5n in theorem c0t (F:Fun K "row_across" "Code.row_across" a5p f fd):a2n P w K mg base CX0 5 f fd ["self","wrong"] (b1r K a9v b5m):=by
 refine F.ok a5a (by fail"ln") ?_;fail"fi";obtain⟨p,w',n,rs,u,rfl,hC,hw,okr,oku,hn,hlr,hns,q⟩:=h
 refine⟨_,(@a0b _ _ _ _ _ (@a0q _ _ 2 _ _ _ _ a5a.nd rfl (Or.inl rfl) (a0k d3g (a3b (pv 0) rfl) (@a5c _ _ _ _ (@a0a _ _ _ _ _ (pv 1) a0c (by rfl)))) (by rfl) (by first|exact .inl rfl|exact .inr rfl|assumption))
   (@a0b _ _ _ _ _ (@a0q _ _ 3 _ _ _ _ a5a.nd rfl (Or.inl rfl) (c9q a5n hr a0r (b5d b3a hr a0r (@a0a _ _ _ _ _ (a3d (sc:=a0g a5p) rfl (by fail"k5") (by show ("row":Str)∉(["self","wrong","rows","number"]:List Str);decide +kernel) (by show (".0":Str)∉(["self","wrong","rows","number"]:List Str);decide +kernel) a5a.nd rfl (a1q (pv 2)) (fun _ _ _ _=>a2q) (fun _ _ _ _=>(a0y a0z hr a0r (@a0a _ _ _ _ _ (@a1m _ _ _ _ _ (@a0a _ _ _ _ _ a0h (@a0a _ _ _ _ _ (@a0u _ _ _ _ _ _ _ (d4v (K:=K) rfl) (pv 0) (a1p a4q) (fun _ _=>rfl)) (@a0a _ _ _ _ _ (@a0u _ _ _ _ _ _ _ (d4v (K:=K) rfl) (pv 0) (a1p a4t) (fun _ _=>rfl)) a0c (by rfl)) (by rfl)) (by rfl))) (@a0a _ _ _ _ _ (pe_fldK (K:=K) rfl (pv 1) rfl) a0c (by rfl)) (by rfl))))) a0c (by rfl)))) (by rfl) (by first|exact .inl rfl|exact .inr rfl|assumption))
   (@a0f _ _ _ (@a0t _ _ _ _ (@a1m _ _ _ _ _ (@a0a _ _ _ _ _ a0h (@a0a _ _ _ _ _ (a0k a3f (pv 3) (a0k b3n (a0k a3e a0h (a3b (pv 0) rfl)) a0h)) (@a0a _ _ _ _ _ (a0k d2r (pv 3) (a3b (pv 0) rfl)) a0c (by rfl)) (by rfl)) (by rfl))))))),?_⟩
 fail"st";obtain⟨dx,lc,sp,ls,as,ss,hp,hlc,hW,hS⟩:=id hC;have lrs:as.length=rs.length:=hW.len;fail"go";refine a1y hp (T_C.cl _) (T_C.n_checks _) (c7y _ _ _) ?_;fail"go";rename_i p1 h1 p2 h2;have n2:=(a0e h1 (.lst [.ref w'])).trans (a0e h2 (.lst (a1c as++[.ref w'])));have f2:(upd (upd H p1 (.lst [.ref w'])) p2 (.lst (a1c as++[.ref w']))) p2=some (.lst (a1c (as++[w']))):=by rw[a0d,a2f]
 generalize upd (upd H p1 (.lst [.ref w'])) p2 (.lst (a1c as++[.ref w']))=G2 at n2 f2 ⊢;have W2:a2a (Rt K G2) (as++[w']) (rs++[u]):=(hW.mono fun a d (x:Rt K H a d)=>Rt.same n2 x).snoc (n2 _ _ hw)
 have ok2:∀r∈rs++[u],r.Ok n:=fun r hr=>by
  rcases A0p.1 hr with z|z
  ·exact okr r z
  ·rw[A0h.1 z];exact oku
 have hp2:=n2 _ _ hp;refine a1z (fun P h=>⟨_,rfl,h⟩) (SqL.of f2) (fun i ys H'=>a1n G2 H'/\ys=vn (((rs++[u]).take i).map fun r=>sn n ⟨0,r.z,r.x⟩)) (by rw[a0m,A0j];show _+1<=_;omega) ⟨a1n.refl _,rfl⟩ ?_ ?_ ?_ ?_
 ·rintro i ys H' ⟨_,rfl⟩;rw[a6z,A0b,A0q];omega
 ·rintro i ys H' ⟨s,_⟩;exact SqL.of (s _ _ f2)
 ·rintro i x ys H' hx ⟨s,rfl⟩;obtain⟨b,hb,rfl⟩:=a1r hx;obtain⟨r,hr,hrb⟩:=W2.get hb;have okk:=ok2 r (List.mem_of_getElem? hr);have sb:SqT K H' b [.int (r.m:Int),.int (r.x:Int),.int (r.z:Int)]:=SqT.of (Rt.same s hrb);fail"go";rename_i p3 h3;refine a1y (a0e h3 _ _ _ (s _ _ hp2)) (T_C.cl _) (T_C.n_n _) (d2z _ _ _) ?_;fail"go";refine⟨p3,n,⟨0,r.z,r.x⟩,rfl,SqT.of a0d,okk.z,A0c okk.x (A0g (by decide) (by omega)),by omega,s.trans (a0e h3 _),?_⟩;rw[a0s hr,A0f,<- c2c];rfl
 ·rintro ys H' ⟨s,rfl⟩ p4 h4;have lus:((rs++[u]).map fun r=>sn n ⟨0,r.z,r.x⟩).length<=100:=by rw[A0b,A0j];show _+1<=_;omega
  rw[a0m,W2.len,A0t];have n4:=n2.trans (s.trans (a0e h4 (.lst (vn ((rs++[u]).map fun r=>sn n ⟨0,r.z,r.x⟩)))));have f4:(upd H' p4 (.lst (vn ((rs++[u]).map fun r=>sn n ⟨0,r.z,r.x⟩)))) p4=some (.lst (vn ((rs++[u]).map fun r=>sn n ⟨0,r.z,r.x⟩))):=a0d;generalize upd H' p4 (.lst (vn ((rs++[u]).map fun r=>sn n ⟨0,r.z,r.x⟩)))=H4 at n4 f4 ⊢;fail"go";intro xo dxo nx ndx nxd;refine⟨xo,p4,dxo,_,rfl,a0d,?_,lus,fun H5 l5 ss5 oth hl5 hS5 hL=>⟨rfl,?_⟩⟩
  ·rw[a0w (a0j f4 nx),a0w (a0j f4 ndx)];exact f4
  have S5:a1n H4 H5:=fun c o e=>by
   have n1:c≠xo:=a0j e nx;have n2:c≠dxo:=a0j e ndx;exact oth c o n1 (by rw[a0w n1,a0w n2];exact e)
  obtain⟨dx',as',hp',hl',hss,okS,hz5⟩:=id hS5;obtain⟨ss0,ok0,hst⟩:=hL (rs.map fun r=>sn n ⟨0,r.z,r.x⟩) (sn n ⟨0,u.z,u.x⟩) (by rw[A0f];rfl);obtain⟨s',rfl,ev,od⟩:=hst.odd ok0 fun z=>hns (spn_sw okr oku z)
  have bnd:∀x∈ss0++[s'],x.j<2*n:=fun x hx=>by
   have h1:x.t<2^(2*n):=by
    rw[okS.tot x hx];refine c2y _ fun v hv=>?_;obtain⟨r,hr,rfl⟩:=A0r.1 hv;have o:=ok2 r hr;exact sn_lt (r:=⟨0,r.z,r.x⟩) ⟨A1v _,o.z,o.x⟩
   rcases A2t x.j (2*n) with c|c
   ·exact c
   ·have:=okS.bit x hx;rw[A0u (A0c h1 (A0g (by decide) c))] at this;cases this
  have hf:odl (2^s'.j) ss0<2^(2*n):=odl_lt (A1w (by decide) (bnd s' (A0v _ A0d))) fun x hx=>bnd x (A2g _ hx);obtain⟨a1,a2,a3⟩:=across okr oku hf ev od;refine a4r hp' (b9g _ _ (by decide +kernel) (by decide +kernel)) ?_;fail"go";refine⟨xo,l5,_,ss0,s',rfl,hS5,lus,fun H6 s6=>?_⟩;have N6:=n4.trans (S5.trans s6);have hp6:=N6 _ _ hp;generalize odl (2^s'.j) ss0=ff at hf a1 a2 a3 ev od ⊢;fail"go";refine a1y hp6 (T_C.cl _) (T_C.n_n _) (d2z _ _ _) ?_;fail"go";refine a1y hp6 (T_C.cl _) (T_C.n_n _) (d2z _ _ _) ?_;fail"go";rename_i p7 h7
  have eA:A2e (ff:Int) (((2^n:Nat):Int)-1)=((ff%2^n:Nat):Int):=by
   rw[show ((2^n:Nat):Int)-1=((2^n-1:Nat):Int) by have:=A0x n;omega,a7z,A7w]
  rw[eA];refine q p7 _ ⟨0,ff%2^n,ff/2^n⟩ (N6.trans (a0e h7 _)) ?_ rfl a1 a2 a3;rw[a0d];unfold Row.V;push_cast;rfl
include a4t a4q a3q in theorem b6s (F:Fun K "with_a_letter_more" "with_a_letter_more" a5u f fd):a2n P w K mg base CX0 1 f fd ["wrongs","n"] (a8t K):=by
 refine F.ok a2z (by fail"ln") ?_;fail"fi";obtain⟨l,n,as,ws,rfl,hl,hW,hn,hz,hbd,q⟩:=h
 refine⟨_,(@a0b _ _ _ _ _ (@a0q _ _ 2 _ _ _ _ a2z.nd rfl (Or.inl rfl) (@a5c _ _ _ _ a0c) (by rfl) (by first|exact .inl rfl|exact .inr rfl|assumption))
   (@a0b _ _ _ _ _ (a4e A1d rfl (a1q (pv 0)) (a1g (i:=3) a2z.nd rfl (Or.inl rfl)) (@a0f _ _ _ (a4e A1d rfl (pi_range2 rfl a3q (@a0a _ _ _ _ _ (pe_bm0 A7k A6e A6f b4r (a0k c3e (@a0u _ _ _ _ _ _ _ a0p (pv 3) (a1p a4t) (fun _ _=>rfl)) (@a0u _ _ _ _ _ _ _ a0p (pv 3) (a1p a4q) (fun _ _=>rfl)))) (@a0a _ _ _ _ _ (pv 1) a0c (by rfl)) (by rfl))) (a1g (i:=4) a2z.nd rfl (Or.inl rfl)) (@a0b _ _ _ _ _ (@a0q _ _ 5 _ _ _ _ a2z.nd rfl (Or.inl rfl) (a0k a3e a0h (pv 4)) (by rfl) (by first|exact .inl rfl|exact .inr rfl|assumption))
   (@a0b _ _ _ _ _ (a1w (b8c A1j A1r A1s a4d (pv 2) (@a0a _ _ _ _ _ (@a1m _ _ _ _ _ (@a0a _ _ _ _ _ a0h (@a0a _ _ _ _ _ (a0k c3e (@a0u _ _ _ _ _ _ _ a0p (pv 3) (a1p a4t) (fun _ _=>rfl)) (pv 5)) (@a0a _ _ _ _ _ (@a0u _ _ _ _ _ _ _ a0p (pv 3) (a1p a4q) (fun _ _=>rfl)) a0c (by rfl)) (by rfl)) (by rfl))) a0c (by rfl))))
   (@a0b _ _ _ _ _ (a1w (b8c A1j A1r A1s a4d (pv 2) (@a0a _ _ _ _ _ (@a1m _ _ _ _ _ (@a0a _ _ _ _ _ a0h (@a0a _ _ _ _ _ (a0k c3e (@a0u _ _ _ _ _ _ _ a0p (pv 3) (a1p a4t) (fun _ _=>rfl)) (pv 5)) (@a0a _ _ _ _ _ (a0k c3e (@a0u _ _ _ _ _ _ _ a0p (pv 3) (a1p a4q) (fun _ _=>rfl)) (pv 5)) a0c (by rfl)) (by rfl)) (by rfl))) a0c (by rfl))))
   (@a0f _ _ _ (a1w (b8c A1j A1r A1s a4d (pv 2) (@a0a _ _ _ _ _ (@a1m _ _ _ _ _ (@a0a _ _ _ _ _ a0h (@a0a _ _ _ _ _ (@a0u _ _ _ _ _ _ _ a0p (pv 3) (a1p a4t) (fun _ _=>rfl)) (@a0a _ _ _ _ _ (a0k c3e (@a0u _ _ _ _ _ _ _ a0p (pv 3) (a1p a4q) (fun _ _=>rfl)) (pv 5)) a0c (by rfl)) (by rfl)) (by rfl))) a0c (by rfl)))))))))))
   (@a0f _ _ _ (@a0t _ _ _ _ (pv 2))))),?_⟩
 fail"st";fail"go";rename_i pt hpt;have S1:=a0e hpt (.lst []);have f1:(upd H pt (.lst [])) pt=some (.lst (a1c [])):=a0d;generalize upd H pt (.lst [])=G1 at S1 f1 ⊢;refine a4m (fun P h=>⟨_,rfl,h⟩) (SqL.of (S1 _ _ hl)) (fun i σ H'=>∃(u1 u2 u3:Option V) (bs:List Addr),σ=[some (.ref l),some (.int n),some (.ref pt),u1,u2,u3]/\a1n H H'/\H' pt=some (.lst (a1c bs))/\a2a (Rt K H') bs (b4x n (ws.take i))) ⟨_,_,_,[],rfl,S1,f1,.nil⟩ ?_ ?_ ?_
 ·rintro i σ H' _ ⟨_,_,_,bs,rfl,hS,_⟩;exact SqL.of (hS _ _ hl)
 ·rintro i y σ H' hy ⟨u1,u2,u3,bs,rfl,hS,hf,hB⟩;obtain⟨a,ha,rfl⟩:=a1r hy;obtain⟨wr,hw,hwa⟩:=hW.get ha;have hi:i<as.length:=(List.getElem?_eq_some_iff.1 ha).1;have sa:SqT K H' a [.int (wr.m:Int),.int (wr.x:Int),.int (wr.z:Int)]:=SqT.of (hS _ _ hwa);have lB:=c1w hn (ws.take i);rw[A0q] at lB;fail"go";have hbw:=hbd wr (List.mem_of_getElem? hw);have hbl:bl wr<=n:=bl_le.2 (A3g hbw.1 hbw.2);refine d6q (lo:=bl wr) (n:=n) ?_ (by omega) (fun P h=>?_) (fun j σ H2=>∃(v1 v2:Option V) (cs:List Addr),σ=[some (.ref l),some (.int n),some (.ref pt),some (.ref a),v1,v2]/\a1n H H2/\H2 pt=some (.lst (a1c cs))/\a2a (Rt K H2) cs (b4x n (ws.take i)++mkr wr (bl wr) j)) ⟨_,_,bs,rfl,hS,hf,by rw[mkr,A3d];exact hB⟩ ?_ ?_
  ·omega
  ·fail"go";exact h
  ·rintro j σ H2 hj ⟨v1,v2,cs,rfl,s2,hf2,hB2⟩
   have lcs:cs.length<=800:=by
    rw[hB2.len,A0j,mkr_len];omega
   have sa2:SqT K H2 a [.int (wr.m:Int),.int (wr.x:Int),.int (wr.z:Int)]:=SqT.of (s2 _ _ hwa);have sl:SqL K H2 pt (a1c cs):=SqL.of hf2;have hle:(a1c cs).length<=900:=by rw[a0m];omega
   fail"go";rename_i t1 ht1;obtain⟨s3,hf3,hB3⟩:=row_app (r:=⟨0,wr.x|||2^(bl wr+j),wr.z⟩) hpt s2 hf2 hB2 ht1 rfl
   unfold Row.V at s3 hf3 hB3;generalize upd (upd H2 t1 (.tup _)) pt _=G3 at s3 hf3 hB3 ⊢;have sa3:SqT K G3 a [.int (wr.m:Int),.int (wr.x:Int),.int (wr.z:Int)]:=SqT.of (s3 _ _ hwa);have sl3:SqL K G3 pt (a1c (cs++[t1])):=SqL.of hf3;have hle3:(a1c (cs++[t1])).length<=900:=by rw[a0m,A0j];show _+1<=_;omega
   fail"go";rename_i t2 ht2;obtain⟨s4,hf4,hB4⟩:=row_app (r:=⟨0,wr.x|||2^(bl wr+j),wr.z|||2^(bl wr+j)⟩) hpt s3 hf3 hB3 ht2 rfl
   unfold Row.V at s4 hf4 hB4;generalize upd (upd G3 t2 (.tup _)) pt _=G4 at s4 hf4 hB4 ⊢;have sa4:SqT K G4 a [.int (wr.m:Int),.int (wr.x:Int),.int (wr.z:Int)]:=SqT.of (s4 _ _ hwa);have sl4:SqL K G4 pt (a1c (cs++[t1]++[t2])):=SqL.of hf4;have hle4:(a1c (cs++[t1]++[t2])).length<=900:=by rw[a0m,A0j,A0j];show _+1+1<=_;omega
   fail"go";rename_i t3 ht3;obtain⟨s5,hf5,hB5⟩:=row_app (r:=⟨0,wr.x,wr.z|||2^(bl wr+j)⟩) hpt s4 hf4 hB4 ht3 rfl
   unfold Row.V at s5 hf5 hB5;refine⟨_,_,_,rfl,s5,hf5,?_⟩;have e:b4x n (ws.take i)++mkr wr (bl wr) (j+1)=b4x n (ws.take i)++mkr wr (bl wr) j++[⟨0,wr.x|||2^(bl wr+j),wr.z⟩]++[⟨0,wr.x|||2^(bl wr+j),wr.z|||2^(bl wr+j)⟩]++[⟨0,wr.x,wr.z|||2^(bl wr+j)⟩]:=by simp[mkr,m3]
   rw[e];exact hB5
  ·rintro σ H2 ⟨v1,v2,cs,rfl,s2,hf2,hB2⟩;refine⟨_,_,_,cs,rfl,s2,hf2,?_⟩;rw[a0s hw,moreL_snoc];exact hB2
 ·rintro σ H' ⟨u1,u2,u3,bs,rfl,hS,hf,hB⟩;rw[a0m,hW.len,A0t] at hB;fail"go";exact q pt H' bs hS hpt hf hB
include a3q a3y in theorem c8x (F:Fun K "wrongs_up_to" "wrongs_up_to" b2u f fd):a2n P w K mg base CX0 2 f fd ["many","n"] (b5z K):=by
 refine F.ok a4c (by fail"ln") ?_;fail"fi";obtain⟨many,n,rfl,hm,hn,q⟩:=h
 refine⟨_,(@a0b _ _ _ _ _ (@a0q _ _ 2 _ _ _ _ a4c.nd rfl (Or.inl rfl) (@a5c _ _ _ _ (@a0a _ _ _ _ _ (@a1m _ _ _ _ _ (@a0a _ _ _ _ _ a0h (@a0a _ _ _ _ _ a0h (@a0a _ _ _ _ _ a0h a0c (by rfl)) (by rfl)) (by rfl))) a0c (by rfl))) (by rfl) (by first|exact .inl rfl|exact .inr rfl|assumption))
   (@a0b _ _ _ _ _ (@a0q _ _ 3 _ _ _ _ a4c.nd rfl (Or.inl rfl) (pv 2) (by rfl) (by first|exact .inl rfl|exact .inr rfl|assumption))
   (@a0b _ _ _ _ _ (a4e A1d rfl (b1a rfl a3q (@a0a _ _ _ _ _ (pv 0) a0c (by rfl))) (a1g (i:=4) a4c.nd rfl (Or.inl rfl)) (@a0b _ _ _ _ _ (@a0q _ _ 3 _ _ _ _ a4c.nd rfl (Or.inl rfl) (a0y a3y hr a0r (@a0a _ _ _ _ _ (pv 3) (@a0a _ _ _ _ _ (pv 1) a0c (by rfl)) (by rfl))) (by rfl) (by first|exact .inl rfl|exact .inr rfl|assumption))
   (@a0f _ _ _ (@a0q _ _ 2 _ _ _ _ a4c.nd rfl (Or.inl rfl) (a0k d3g (pv 2) (pv 3)) (by rfl) (by first|exact .inl rfl|exact .inr rfl|assumption)))))
   (@a0f _ _ _ (@a0t _ _ _ _ (pv 2)))))),?_⟩
 fail"go";rename_i t0 ht0 p0 hp0;have S1:=(a0e ht0 (.tup [V.int 0,V.int 0,V.int 0])).trans (a0e hp0 (.lst [V.ref t0]));have f1:(upd (upd H t0 (.tup [V.int 0,V.int 0,V.int 0])) p0 (.lst [V.ref t0])) p0=some (.lst (a1c [t0])):=a0d;have w1:a2a (Rt K (upd (upd H t0 (.tup [V.int 0,V.int 0,V.int 0])) p0 (.lst [V.ref t0]))) [t0] [⟨0,0,0⟩]:=.cons (a0e hp0 _ _ _ a0d) .nil;generalize upd (upd H t0 (.tup [V.int 0,V.int 0,V.int 0])) p0 (.lst [V.ref t0])=G1 at S1 f1 w1 ⊢;refine b1z (n:=many) (by omega) (fun P h=>⟨_,rfl,h⟩) (fun i σ H'=>∃(u:Option V) (pt ph:Addr) (bs cs:List Addr),σ=[some (.int many),some (.int n),some (.ref pt),some (.ref ph),u]/\a1n H H'/\H' pt=some (.lst (a1c bs))/\a2a (Rt K H') bs (Wup n i)/\H' ph=some (.lst (a1c cs))/\a2a (Rt K H') cs (c2k n i)) ⟨_,p0,p0,[t0],[t0],rfl,S1,f1,w1,f1,w1⟩ ?_ ?_
 ·rintro i σ H' hi ⟨u,pt,ph,bs,cs,rfl,hS,hpt,hB,hph,hC⟩
  have lcs:cs.length<=27:=by
   rw[hC.len];refine A1z (c5x hn i) ?_
   match i,(show i<=1 by omega) with
   | 0,_=>decide
   | 1,_=>decide
  have lbs:bs.length<=757:=by rw[hB.len];exact Wup_len hn (by omega)
  fail"go";refine⟨ph,n,cs,c2k n i,rfl,hph,hC,hn,lcs,fun u hu=>⟨(c2t hu).x,(c2t hu).z⟩,fun p2 H2 ds s2 np f2 W2=>?_⟩
  have lds:ds.length+bs.length<=1000:=by
   have h1:=c1w hn (c2k n i);have h2:=W2.len;have h3:=hC.len
   match i,(show i<=1 by omega) with
   | 0,_=>
    have:(c2k n 0).length=1:=rfl;omega
   | 1,_=>
    have h4:bs.length<=28:=by
     rw[hB.len];show ([(⟨0,0,0⟩:Row)]++c2k n 1).length<=28;rw[A0j];show 1+_<=_;omega
    omega
  fail"go";refine st_cat (s2 _ _ hpt) f2 (by rw[a0m,a0m];omega) fun p3 hp3=>?_;have S3:=a0e hp3 (.lst (a1c bs++a1c ds));fail"go";refine⟨_,p3,p2,bs++ds,ds,rfl,hS.trans (s2.trans S3),by rw[a0d];unfold a1c;rw[A0f],?_,S3 _ _ f2,W2.mono fun a d (x:Rt K H2 a d)=>Rt.same S3 x⟩;exact(hB.mono fun a d (x:Rt K H' a d)=>Rt.same (s2.trans S3) x).app (W2.mono fun a d (x:Rt K H2 a d)=>Rt.same S3 x)
 ·rintro σ H' ⟨u,pt,ph,bs,cs,rfl,hS,hpt,hB,hph,hC⟩;fail"go";exact q pt H' bs hS hpt hB
include a4t a4q in theorem ok_together (F:Fun K "together" "together" c3h f fd):a2n P w K mg base CX0 1 f fd ["one","other"] (c9a K):=by
 refine F.ok sc_together (by fail"ln") ?_;fail"fi";obtain⟨a,b,u,v,rfl,ha,hb,q⟩:=h;refine⟨_,(@a0f _ _ _ (@a0t _ _ _ _ (@a1m _ _ _ _ _ (@a0a _ _ _ _ _ a0h (@a0a _ _ _ _ _ (a0k a1t (@a0u _ _ _ _ _ _ _ a0p (pv 0) (a1p a4t) (fun _ _=>rfl)) (@a0u _ _ _ _ _ _ _ a0p (pv 1) (a1p a4t) (fun _ _=>rfl))) (@a0a _ _ _ _ _ (a0k a1t (@a0u _ _ _ _ _ _ _ a0p (pv 0) (a1p a4q) (fun _ _=>rfl)) (@a0u _ _ _ _ _ _ _ a0p (pv 1) (a1p a4q) (fun _ _=>rfl))) a0c (by rfl)) (by rfl)) (by rfl))))),?_⟩;fail"st";unfold Row.V at ha hb;fail"go";rename_i p hp;exact q p hp
include a5r T_C b1p a5x a8c a3w b7s in theorem b5k (F:Fun K "parting_wrongs" "Code.parting_wrongs" a5h f fd):a2n P w K mg base CX0 6 f fd ["self","many"] (a7q K a9v b5m):=by
 refine F.ok a2s (by fail"ln") ?_;fail"fi";obtain⟨p,many,n,rs,rfl,hC,okr,hm,hn,hlr,q⟩:=h
 refine⟨_,(@a0b _ _ _ _ _ (@a0q _ _ 2 _ _ _ _ a2s.nd rfl (Or.inl rfl) pe_dnewT (by rfl) (by first|exact .inl rfl|exact .inr rfl|assumption))
   (@a0b _ _ _ _ _ (a4e A1d rfl (a1q (a0y a3w hr a0r (@a0a _ _ _ _ _ (pv 1) (@a0a _ _ _ _ _ (a3b (pv 0) rfl) a0c (by rfl)) (by rfl)))) (a1g (i:=3) a2s.nd rfl (Or.inl rfl)) (@a0b _ _ _ _ _ (@a0q _ _ 4 _ _ _ _ a2s.nd rfl (Or.inl rfl) (pe_setD (hu_of hr) (pv 2) (a9a d7c rfl a5r b3m (@a0a _ _ _ _ _ (b3p a5x hr a0r (pv 0) (@a0a _ _ _ _ _ (pv 3) a0c (by rfl))) a0c (by rfl))) (pv 3) ⟨rfl,rfl,rfl,rfl⟩) (by rfl) (by first|exact .inl rfl|exact .inr rfl|assumption))
   (@a0b _ _ _ _ _ (@a0q _ _ 5 _ _ _ _ a2s.nd rfl (Or.inl rfl) (a0y b7s hr a0r (@a0a _ _ _ _ _ (pv 4) (@a0a _ _ _ _ _ (pv 3) a0c (by rfl)) (by rfl))) (by rfl) (by first|exact .inl rfl|exact .inr rfl|assumption))
   (@a0f _ _ _ (@a2c _ _ _ _ _ _ _ _ (a4g (a3t (b3p b1p hr a0r (pv 0) (@a0a _ _ _ _ _ (pv 5) a0c (by rfl))))) (@a0f _ _ _ (@a0t _ _ _ _ (@a1m _ _ _ _ _ (@a0a _ _ _ _ _ (pv 4) (@a0a _ _ _ _ _ (pv 3) (@a0a _ _ _ _ _ (b3p a8c hr a0r (pv 0) (@a0a _ _ _ _ _ (pv 5) a0c (by rfl))) a0c (by rfl)) (by rfl)) (by rfl))))) a0x)))))
   (@a0f _ _ _ (@a0t _ _ _ _ c1q)))),?_⟩
 fail"st";obtain⟨dx,lc,sp,ls,as,ss,hp,hlc,hW,hS⟩:=id hC;fail"go";refine st_dnewT fun pd hpd=>?_;have S0:=a0e hpd (.dT []);have f0:(upd H pd (.dT [])) pd=some (.dT []):=a0d;generalize upd H pd (.dT [])=H0 at S0 f0 ⊢;fail"go";refine b2q ?_;fail"go";refine a1y (S0 _ _ hp) (T_C.cl _) (T_C.n_n _) (d2z _ _ _) ?_;fail"go";refine⟨many,n,rfl,hm,hn,fun pw H1 bs s1 f1 W1=>?_⟩;have d1:=s1 _ _ f0;have LL:=Wup_len hn hm;have lws:bs.length=(Wup n many).length:=W1.len;refine b1s (SqL.of f1) (fun i σ H'=>∃(u1 u2 u3:Option V) (kvs:List (List Key×V)),σ=[some (.ref p),some (.int many),some (.ref pd),u1,u2,u3]/\a1n H H'/\(∀c o,c≠pd->H1 c=some o->H' c=some o)/\H' pd=some (.dT kvs)/\kvs.length<=i/\Fst H' rs ((Wup n many).take i) kvs/\∀j u f,j<i->(Wup n many)[j]? = some u->((Wup n many).take i).find? (hit rs (sig rs u))=some f->Hm n rs f u) ⟨_,_,_,[],rfl,S0.trans s1,fun _ _ _ e=>e,d1,A0k _,fun s=>⟨fun _=>rfl,fun f z=>by cases z⟩,fun j u f z=>absurd z (B0z j)⟩ ?_ ?_ ?_
 ·rintro i σ H' _ ⟨_,_,_,kvs,rfl,_,o,hd,_⟩;exact SqL.of (o _ _ (a8x f1 d1 (by intro z;cases z)) f1)
 ·rintro i x σ H' hx ⟨u1,u2,u3,kvs,rfl,hS',ho,hd,hl,hF,hH⟩;obtain⟨b,hb,rfl⟩:=a1r hx;obtain⟨r,hr,hrb⟩:=W1.get hb;have hrm:=List.mem_of_getElem? hr;have okw:=c6z hm hrm;have hb':H' b=some (.tup r.V):=ho _ _ (a8x hrb d1 (by intro z;cases z)) hrb;have hi:i<(Wup n many).length:=(List.getElem?_eq_some_iff.1 hr).1;have npd:H pd=none:=hpd;fail"go";refine st_setD ?_;fail"go";refine⟨pd,rfl,.inr ⟨kvs,.inl hd⟩,?_⟩;fail"go";refine a4r (hS' _ _ hp) (b4k _ _ _ (by decide +kernel) (by decide +kernel) (by decide +kernel)) ?_;fail"go";refine⟨p,b,n,rs,r,rfl,hC.same hS',hb',hlr,fun p7 hp7=>?_⟩;fail"go";refine⟨p7,vn (sig rs r),rfl,.inl ⟨SqL.of a0d,fun pk hpk=>?_⟩⟩;have S7:=(a0e hp7 (.lst (vn (sig rs r)))).trans (a0e hpk (.tup (vn (sig rs r))));have fk:(upd (upd H' p7 (.lst (vn (rs.map fun r'=>(a2v r' r).toNat)))) pk (.tup (vn (sig rs r)))) pk=some (.tup (vn (sig rs r))):=a0d;have S7':a1n H' (upd (upd H' p7 (.lst (vn (rs.map fun r'=>(a2v r' r).toNat)))) pk (.tup (vn (sig rs r)))):=S7;generalize upd (upd H' p7 (.lst (vn (rs.map fun r'=>(a2v r' r).toNat)))) pk (.tup (vn (sig rs r)))=G7 at S7' fk ⊢;clear S7;have o7:∀c o,c≠pd->H1 c=some o->G7 c=some o:=fun c o hc e=>S7' _ _ (ho c o hc e);have hF7:Fst G7 rs ((Wup n many).take i) kvs:=hF.same fun c r e=>S7' _ _ e;have hb7:=S7' _ _ hb';have hd7:=S7' _ _ hd;have SG:=hS'.trans S7';have bpd:b≠pd:=a8x hrb d1 (by intro z;cases z);fail"go";apply join2 (P:=fun fb HF=>a1n H HF/\(∀c o,c≠pd->H1 c=some o->HF c=some o)/\∃kvs' f,HF pd=some (.dT kvs')/\kvs'.length<=i+1/\Fst HF rs ((Wup n many).take (i+1)) kvs'/\HF fb=some (.tup (Row.V f))/\HF b=some (.tup r.V)/\((Wup n many).take (i+1)).find? (hit rs (sig rs r))=some f)
  case h1=>
   intro key;refine⟨kvs,kS (sig rs r),pk,rfl,hd7,by rw[kS_V];exact fk,a3n (by omega),fun v ev=>?_,fun ev=>?_⟩
   ·cases ef:((Wup n many).take i).find? (hit rs (sig rs r)) with
    | none=>rw[(hF7 _).1 ef] at ev;cases ev
    | some f=>
     obtain⟨fb,e1,e2⟩:=(hF7 _).2 f ef;rw[ev] at e1;cases e1;have hP:=(⟨SG,o7,kvs,f,hd7,by omega,hF7.old hr ef,e2,hb7,c1z hr ef⟩:a1n H G7/\(∀c o,c≠pd->H1 c=some o->G7 c=some o)/\∃kvs' f,G7 pd=some (.dT kvs')/\kvs'.length<=i+1/\Fst G7 rs ((Wup n many).take (i+1)) kvs'/\G7 fb=some (.tup (Row.V f))/\G7 b=some (.tup r.V)/\((Wup n many).take (i+1)).find? (hit rs (sig rs r))=some f);generalize e9:G7=HF;exact key fb HF (by rw[<- e9];exact hP)
   ·have ef:((Wup n many).take i).find? (hit rs (sig rs r))=none:=by
     cases ef:((Wup n many).take i).find? (hit rs (sig rs r)) with
     | none=>rfl
     | some f=>
      obtain⟨fb,e1,e2⟩:=(hF7 _).2 f ef;rw[ev] at e1;cases e1
    have B9:But pd G7 (upd G7 pd (.dT (putK kvs (kS (sig rs r)) (.ref b)))):=But.upd;have hb9:=B9 _ _ bpd hb7;obtain⟨g1,g2⟩:=Fst.new (hF7.same fun c r' e=>B9 _ _ (a8x e hd7 (by intro z;cases z)) e) hr hb9 ef;refine key b _ ⟨But.same SG B9 hpd,fun c o hc e=>B9 c o hc (o7 c o hc e),_,r,a0d,?_,g1,hb9,hb9,g2⟩;have:=c7w kvs (kS (sig rs r)) (V.ref b);omega
  case h2=>
   rintro fb HF ⟨SF,oF,kvs',f,hdF,lF,hFF,hfb,hbF,efF⟩;obtain⟨fm,fs⟩:=find_sig efF;have fm':f∈Wup n many:=A1x fm;have okf:=c6z hm fm'
   have hH':∀j u g,j<i+1->(Wup n many)[j]? = some u->((Wup n many).take (i+1)).find? (hit rs (sig rs u))=some g->u≠r->Hm n rs g u:=fun j u g hj hu hg ne=>by
    have hji:j<i:=by
     rcases A2t j i with c|c
     ·exact c
     ·have:j=i:=by omega
      rw[this,hr] at hu;cases hu;exact absurd rfl ne
    refine hH j u g hji hu ?_;have hin:u∈(Wup n many).take i:=List.mem_of_getElem? (by rw[List.getElem?_take_of_lt hji];exact hu)
    cases e0:((Wup n many).take i).find? (hit rs (sig rs u)) with
    | none=>exact absurd (List.find?_eq_none.1 e0 u hin) (by rw[show hit rs (sig rs u) u=true from decide_eq_true rfl];decide)
    | some g'=>
     rw[c1z hr e0] at hg;exact hg
   fail"go";refine⟨fb,b,f,r,rfl,SqT.of hfb,SqT.of hbF,fun p9 h9=>?_⟩;have n9:=a0e h9 (.tup (tog f r).V);have f9:(upd HF p9 (.tup (tog f r).V)) p9=some (.tup (tog f r).V):=a0d;generalize upd HF p9 (.tup (tog f r).V)=H9 at n9 f9 ⊢;have S9:=SF.trans n9;fail"go";refine a4r (S9 _ _ hp) (b4k _ _ _ (by decide +kernel) (by decide +kernel) (by decide +kernel)) ?_;fail"go";refine⟨p,p9,n,rs,tog f r,rfl,hC.same S9,f9,tog_ok okf.2 okw.2,hn,hlr,fun c H10 s10 hc=>?_⟩;have S10:=S9.trans s10;have m10:=n9.trans s10
   cases c with
   | true=>
    fail"go";refine⟨_,_,_,kvs',rfl,S10,fun c o hc e=>m10 _ _ (oF c o hc e),m10 _ _ hdF,lF,hFF.same fun c r e=>m10 _ _ e,fun j u g hj hu hg=>?_⟩
    by_cases eu:u=r
    ·subst eu;rw[efF] at hg;cases hg;exact hc.1 rfl
    ·exact hH' j u g hj hu hg eu
   | false=>
    have nh:¬Spn (rs.map (sn n)) (sn n (tog f r)):=fun z=>by have:=hc.2 z;cases this
    fail"go";refine a4r (S10 _ _ hp) (b4k _ _ _ (by decide +kernel) (by decide +kernel) (by decide +kernel)) ?_;fail"go";refine⟨p,p9,n,rs,tog f r,rfl,hC.same S10,s10 _ _ f9,okr,tog_ok okf.2 okw.2,hn,hlr,nh,fun t H11 y s11 ft ym yo yr yu=>?_⟩;fail"go";rename_i pt ht;have m11:=(m10.trans s11).trans (a0e ht (.tup [.ref fb,.ref b,.ref t]));exact q _ _ ((S10.trans s11).trans (a0e ht _)) (.inr ⟨pt,fb,b,t,f,r,y,rfl,a0d,m11 _ _ hfb,m11 _ _ hbF,a0e ht _ _ _ ft,fm',hrm,fs,nh,ym,yo,yr,yu⟩)
 ·rintro σ H' ⟨u1,u2,u3,kvs,rfl,hS',ho,hd,hl,hF,hH⟩;rw[a0m,lws,A0t] at hF hH;fail"go";refine q .non H' hS' (.inl ⟨rfl,?_⟩);rintro⟨u,hu,v,hv,es,nh⟩;obtain⟨j,hj⟩:=List.getElem?_of_mem hu;obtain⟨k,hk⟩:=List.getElem?_of_mem hv;have es':sig rs u=sig rs v:=es
  cases ef:(Wup n many).find? (hit rs (sig rs u)) with
  | none=>exact absurd (List.find?_eq_none.1 ef u hu) (by rw[show hit rs (sig rs u) u=true from decide_eq_true rfl];decide)
  | some f=>exact nh ((hH j u f (List.getElem?_eq_some_iff.1 hj).1 hj ef).via (hH k v f (List.getElem?_eq_some_iff.1 hk).1 hk (by rw[<- es'];exact ef)))
include a5v in theorem c9b (F:Fun K "_law_cell_at" "_law_cell_at" b2s f fd):a2n P w K mg base CX0 1 f fd ["_law_script","_law_k"] (b6f K):=by
 refine F.ok c9n (by fail"ln") ?_;fail"fi";obtain⟨a,k,ns,rfl,ha,q⟩:=h
 refine⟨_,(@a0b _ _ _ _ _ (@a2c _ _ _ _ _ _ _ _ (@a0v _ _ _ _ _ _ _ _ op_lt (pv 1) (a1x a4s rfl a5v A3k (@a0a _ _ _ _ _ (pv 0) a0c (by rfl))) (a1d _)) (@a0f _ _ _ (@a0t _ _ _ _ (@a0u _ _ _ _ _ _ _ b3u (pv 0) (pv 1) (fun _ _=>rfl)))) a0x)
   (@a0f _ _ _ (@a0t _ _ _ _ a0h))),?_⟩
 fail"st";fail"go";refine b8w (fun c=>?_) (fun c=>?_)
 ·rw[A0b] at c;have ex:=at_gd (ns:=ns) (k:=k) (by omega);fail"go";exact q _ rfl
 ·rw[A0b] at c;fail"go";refine q 0 ?_;rw[List.getD_eq_getElem?_getD,List.getElem?_eq_none (by omega)];rfl
theorem d6u (F:Fun K "_law_known" "_law_known" b6p f fd):a2n P w K mg base CX0 1 f fd ["_law_way"] (b9y K):=by
 refine F.ok d5b (by fail"ln") ?_;fail"fi";obtain⟨k,rfl,hw,q⟩:=h
 refine⟨_,(@a0b _ _ _ _ _ (@a2c _ _ _ _ _ _ _ _ (@a0v _ _ _ _ _ _ _ _ a5t (pv 0) a0h (a1d _)) (@a0f _ _ _ (@a0t _ _ _ _ (@a1m _ _ _ _ _ (@a0a _ _ _ _ _ a0h (@a0a _ _ _ _ _ (@a5c _ _ _ _ (@a0a _ _ _ _ _ a1h (@a0a _ _ _ _ _ a1h (@a0a _ _ _ _ _ a1h (@a0a _ _ _ _ _ a1h a0c (by rfl)) (by rfl)) (by rfl)) (by rfl))) a0c (by rfl)) (by rfl))))) a0x)
   (@a0b _ _ _ _ _ (@a2c _ _ _ _ _ _ _ _ (@a0v _ _ _ _ _ _ _ _ a5t (pv 0) a0h (a1d _)) (@a0f _ _ _ (@a0t _ _ _ _ (@a1m _ _ _ _ _ (@a0a _ _ _ _ _ a0h (@a0a _ _ _ _ _ (@a5c _ _ _ _ (@a0a _ _ _ _ _ a1h (@a0a _ _ _ _ _ a1h (@a0a _ _ _ _ _ a1h (@a0a _ _ _ _ _ a1h (@a0a _ _ _ _ _ a1h (@a0a _ _ _ _ _ a1h a0c (by rfl)) (by rfl)) (by rfl)) (by rfl)) (by rfl)) (by rfl))) a0c (by rfl)) (by rfl))))) a0x)
   (@a0f _ _ _ (@a0t _ _ _ _ (@a1m _ _ _ _ _ (@a0a _ _ _ _ _ a0h (@a0a _ _ _ _ _ (@a5c _ _ _ _ (@a0a _ _ _ _ _ a1h (@a0a _ _ _ _ _ a1h (@a0a _ _ _ _ _ a1h (@a0a _ _ _ _ _ a1h (@a0a _ _ _ _ _ a1h (@a0a _ _ _ _ _ a1h (@a0a _ _ _ _ _ a1h (@a0a _ _ _ _ _ a1h a0c (by rfl)) (by rfl)) (by rfl)) (by rfl)) (by rfl)) (by rfl)) (by rfl)) (by rfl))) a0c (by rfl)) (by rfl))))))),?_⟩
 fail"go";refine b8w (fun c=>?_) (fun c=>?_)
 ·obtain rfl:k=0:=by omega
  fail"go";rename_i p1 h1 p2 h2;exact q p2 p1 _ ((a0e h1 _).trans (a0e h2 _)) (a0e h2 _ _ _ a0d) a0d
 fail"go";refine b8w (fun c=>?_) (fun c=>?_)
 ·obtain rfl:k=1:=by omega
  fail"go";rename_i p1 h1 p2 h2;exact q p2 p1 _ ((a0e h1 _).trans (a0e h2 _)) (a0e h2 _ _ _ a0d) a0d
 ·obtain rfl:k=2:=by omega
  fail"go";rename_i p1 h1 p2 h2;exact q p2 p1 _ ((a0e h1 _).trans (a0e h2 _)) (a0e h2 _ _ _ a0d) a0d
include a3q in theorem d0g (F:Fun K "_law_stream" "_law_stream" b3x f fd):a2n P w K mg base CX0 1 f fd ["_law_cell","_law_many"] (b8p K):=by
 refine F.ok a3k (by fail"ln") ?_;fail"fi";obtain⟨c,m,rfl,hm,q⟩:=h
 refine⟨_,(@a0b _ _ _ _ _ (@a0q _ _ 2 _ _ _ _ a3k.nd rfl (Or.inl rfl) (@a5c _ _ _ _ a0c) (by rfl) (by first|exact .inl rfl|exact .inr rfl|assumption))
   (@a0b _ _ _ _ _ (@a2c _ _ _ _ _ _ _ _ (@a0v _ _ _ _ _ _ _ _ a5t (a0k a6d (pv 0) a0h) a0h (a1d _)) (@a0b _ _ _ _ _ (@a0q _ _ 3 _ _ _ _ a3k.nd rfl (Or.inl rfl) (a0k a8b (pv 0) a0h) (by rfl) (by first|exact .inl rfl|exact .inr rfl|assumption))
   (@a0b _ _ _ _ _ (a4e A1d rfl (b1a rfl a3q (@a0a _ _ _ _ _ (pv 1) a0c (by rfl))) (a1g (i:=4) a3k.nd rfl (Or.inl rfl)) (@a0b _ _ _ _ _ (a1w (b8c A1j A1r A1s a4d (pv 2) (@a0a _ _ _ _ _ (a0k a6d (pv 3) (a0k op_pow a0h a0h)) a0c (by rfl))))
   (@a0f _ _ _ (@a0q _ _ 3 _ _ _ _ a3k.nd rfl (Or.inl rfl) (a0k a8b (pv 3) (a0k op_pow a0h a0h)) (by rfl) (by first|exact .inl rfl|exact .inr rfl|assumption)))))
   (@a0f _ _ _ (@a0t _ _ _ _ (pv 2))))) a0x)
   (@a0b _ _ _ _ _ (@a0q _ _ 5 _ _ _ _ a3k.nd rfl (Or.inl rfl) (a0k a6x (a0k a6d (pv 0) (a0k a6x (a0k op_pow a0h a0h) a0h)) a0h) (by rfl) (by first|exact .inl rfl|exact .inr rfl|assumption))
   (@a0b _ _ _ _ _ (a4e A1d rfl (b1a rfl a3q (@a0a _ _ _ _ _ (a0k a6x (pv 1) a0h) a0c (by rfl))) (a1g (i:=4) a3k.nd rfl (Or.inl rfl)) (@a0b _ _ _ _ _ (@a0q _ _ 5 _ _ _ _ a3k.nd rfl (Or.inl rfl) (a0k a6d (a0k a6x (a0k a6x (a0k op_mulW (pv 5) (pv 5)) (a0k op_mulW a0h (pv 5))) (pv 4)) (a0k a6x (a0k op_pow a0h a0h) a0h)) (by rfl) (by first|exact .inl rfl|exact .inr rfl|assumption))
   (@a0f _ _ _ (a1w (b8c A1j A1r A1s a4d (pv 2) (@a0a _ _ _ _ _ (pv 5) a0c (by rfl)))))))
   (@a0f _ _ _ (@a0t _ _ _ _ (b1u c3m (pv 2) (b4g a0h) b8x))))))),?_⟩
 fail"st";fail"go";rename_i p hp;refine b8w (fun _=>?_) (fun _=>?_)
 ·fail"go";refine b1z (n:=m) (by omega) (fun P h=>⟨_,rfl,h⟩) (fun i σ H'=>∃(x:Int) (u:Option V) (ns:List Int),σ=[some (.int c),some (.int m),some (.ref p),some (.int x),u,none]/\H' p=some (.lst (ns.map V.int))/\a1n H H'/\ns.length=i/\∀y∈ns,0<=y) ⟨_,none,[],rfl,a0d,a0e hp _,rfl,fun _ z=>(nomatch z)⟩ ?_ ?_
  ·rintro i σ H' hi ⟨x,u,ns,rfl,hpH,hS,hl,hall⟩;have hpl:SqL K H' p (ns.map V.int):=SqL.of hpH;have hle:(ns.map V.int).length<=900:=by rw[A0b];omega
   fail"go"
   exact⟨_,_,ns++[x%10^Int.toNat 40],rfl,by rw[a0d,A0f];rfl,But.same hS But.upd hp,by rw[A0j,hl];rfl,fun y hy=>by
    rcases A0p.1 hy with z|z
    ·exact hall y z
    ·rw[A0h.1 z];exact A5y _ (by decide)⟩
  ·rintro σ H' ⟨x,u,ns,rfl,hpH,hS,hl,hall⟩;fail"go";exact q p _ ns hS hpH hl hall
 fail"go";have em:(10:Int)^Int.toNat 40+121=10^40+121:=rfl;have b0:(0:Int)<10^40+121:=by decide
 have b1:(10:Int)^40+121+48271<10^41:=by decide
 rw[em];refine b1z (n:=m+4) (by omega) (fun P h=>?_) (fun i σ H'=>∃(x:Int) (u:Option V) (ns:List Int),σ=[some (.int c),some (.int m),some (.ref p),none,u,some (.int x)]/\H' p=some (.lst (ns.map V.int))/\a1n H H'/\ns.length=i/\0<=x/\x<10^41/\∀y∈ns,0<=y) ⟨_,none,[],rfl,a0d,a0e hp _,rfl,?_,?_,fun _ z=>(nomatch z)⟩ ?_ ?_
 ·fail"go";exact h
 ·have:=A5y c (Int.ne_of_gt b0);omega
 ·have:=A5u c b0;omega
 ·rintro i σ H' hi ⟨x,u,ns,rfl,hpH,hS,hl,x0,x1,hall⟩;have hpl:SqL K H' p (ns.map V.int):=SqL.of hpH;have hle:(ns.map V.int).length<=900:=by rw[A0b];omega
  fail"go";refine st_i (cmulW x0 x1 x0 x1) ?_;fail"go";refine st_i (cmulW (by decide) (by decide) x0 x1) ?_;fail"go";rw[em];have y0:=A5y (x*x+48271*x+(i:Int)) (Int.ne_of_gt b0);have y1:=A5u (x*x+48271*x+(i:Int)) b0
  exact⟨_,_,ns++[(x*x+48271*x+(i:Int))%(10^40+121)],rfl,by rw[a0d,A0f];rfl,But.same hS But.upd hp,by rw[A0j,hl];rfl,y0,by omega,fun y hy=>by
   rcases A0p.1 hy with z|z
   ·exact hall y z
   ·rw[A0h.1 z];exact y0⟩
 ·rintro σ H' ⟨x,u,ns,rfl,hpH,hS,hl,x0,x1,hall⟩;have hpl:SqL K H' p (ns.map V.int):=SqL.of hpH;fail"go";rename_i p2 hp2
  have ec:c7g (ns.map V.int) (some 4) none=(ns.drop 4).map V.int:=by
   rw[show (4:Int)=((4:Nat):Int) from rfl,cut_dropV,List.map_drop]
  rw[ec];exact q p2 _ _ (hS.trans (a0e hp2 _)) a0d (by rw[A7z];omega) (fun x hx=>hall x (List.mem_of_mem_drop hx))
include a2k c8g in theorem ok__law_deed (F:Fun K "_law_deed" "_law_deed" b9h f fd):a2n P w K mg base CX0 2 f fd ["_law_cell","_law_n"] (c3t K):=by
 refine F.ok a8z (by fail"ln") ?_;fail"fi";obtain⟨c,n,rfl,h0,hn,q⟩:=h
 refine⟨_,(@a0b _ _ _ _ _ (@a0q _ _ 2 _ _ _ _ a8z.nd rfl (Or.inl rfl) (@a0u _ _ _ _ _ _ _ b3u (a0y a2k hr a0r (@a0a _ _ _ _ _ (pv 0) (@a0a _ _ _ _ _ a0h a0c (by rfl)) (by rfl))) a0h (fun _ _=>rfl)) (by rfl) (by first|exact .inl rfl|exact .inr rfl|assumption))
   (@a0b _ _ _ _ _ (@a0q _ _ 3 _ _ _ _ a8z.nd rfl (Or.inl rfl) (a0k a6d (a0k a8b (pv 2) a0h) (pv 1)) (by rfl) (by first|exact .inl rfl|exact .inr rfl|assumption))
   (@a0b _ _ _ _ _ (@a0q _ _ 4 _ _ _ _ a8z.nd rfl (Or.inl rfl) (a0k a6d (a0k a6x (a0k a6x (pv 3) a0h) (a0k a6d (a0k a8b (pv 2) a0h) (a1x (call_max2 rfl) rfl c8g c5z (@a0a _ _ _ _ _ a0h (@a0a _ _ _ _ _ (a0k b3n (pv 1) a0h) a0c (by rfl)) (by rfl))))) (pv 1)) (by rfl) (by first|exact .inl rfl|exact .inr rfl|assumption))
   (@a0b _ _ _ _ _ (@a0q _ _ 5 _ _ _ _ a8z.nd rfl (Or.inl rfl) (@a0u _ _ _ _ _ _ _ b3u (@a5c _ _ _ _ (@a0a _ _ _ _ _ a1h (@a0a _ _ _ _ _ a1h (@a0a _ _ _ _ _ a1h (@a0a _ _ _ _ _ a1h (@a0a _ _ _ _ _ a1h (@a0a _ _ _ _ _ a1h (@a0a _ _ _ _ _ a1h (@a0a _ _ _ _ _ a1h a0c (by rfl)) (by rfl)) (by rfl)) (by rfl)) (by rfl)) (by rfl)) (by rfl)) (by rfl))) (a0k a6d (pv 2) a0h) (fun _ _=>rfl)) (by rfl) (by first|exact .inl rfl|exact .inr rfl|assumption))
   (@a0b _ _ _ _ _ (@a2c _ _ _ _ _ _ _ _ (@a0v _ _ _ _ _ _ _ _ op_in_seq (pv 5) (@a1m _ _ _ _ _ (@a0a _ _ _ _ _ a1h (@a0a _ _ _ _ _ a1h a0c (by rfl)) (by rfl))) rfl) (@a0b _ _ _ _ _ (@a2c _ _ _ _ _ _ _ _ (@a0v _ _ _ _ _ _ _ _ a5t (pv 1) a0h (a1d _)) (@a0f _ _ _ (@a0t _ _ _ _ (@a1m _ _ _ _ _ (@a0a _ _ _ _ _ a1h (@a0a _ _ _ _ _ a0h a0c (by rfl)) (by rfl))))) a0x)
   (@a0f _ _ _ (@a0t _ _ _ _ (@a1m _ _ _ _ _ (@a0a _ _ _ _ _ (pv 5) (@a0a _ _ _ _ _ (pv 3) (@a0a _ _ _ _ _ (pv 4) a0c (by rfl)) (by rfl)) (by rfl)))))) a0x)
   (@a0f _ _ _ (@a0t _ _ _ _ (@a1m _ _ _ _ _ (@a0a _ _ _ _ _ (pv 5) (@a0a _ _ _ _ _ (pv 3) a0c (by rfl)) (by rfl)))))))))),?_⟩
 fail"st";fail"go";refine⟨c,1,rfl,by decide,fun p H1 ns hS1 hp1 hl1 _=>?_⟩;obtain⟨x,rfl⟩:=len1I hl1;have hpl:SqL K H1 p [.int x]:=SqL.of hp1;fail"go";rename_i j ej hj;refine⟨1,(n:Int)-1,rfl,?_⟩;have hM:(0:Int)<(if (n:Int)-1>1 then (n:Int)-1 else 1):=by split<;>omega
 refine st_i hM ?_;fail"go";rename_i i ei hi pl kpl;obtain⟨m8,e8,h8⟩:=emod_nat x (n:=8) (by decide);rw[show x%8=(m8:Int) from e8];refine c8r (SqL.of a0d) (at_k8 h8) ?_;fail"go";rename_i pt kpt;refine st_inT (SqT.of a0d) rfl rfl ?_;rw[if_neg A1a,in_two];fail"go";refine b8w (fun c2=>?_) (fun c2=>?_)
 ·fail"go";refine b8w (fun c1=>?_) (fun c1=>?_)
  ·fail"go";rename_i p2 hp2;exact q p2 _ ⟨.both,[0]⟩ (by fail"sm") a0d ⟨rfl,fun x hx=>by rw[List.mem_singleton.mp hx];exact h0,by simp⟩
  ·fail"go";rename_i p2 hp2;have hMn:(if (n:Int)-1>1 then (n:Int)-1 else 1)=(n:Int)-1:=by split<;>omega
   rw[hMn] at ei;have hji:j≠i:=ne_modI hj (A5y _ (by omega)) (A5u _ (by omega)) ei;refine q p2 _ ⟨k8 m8,[j,i]⟩ (by fail"sm") a0d ⟨c2.symm,fun x hx=>?_,by simp[hji]⟩
   rcases List.mem_cons.mp hx with rfl|hx
   ·exact hj
   ·rw[List.mem_singleton.mp hx];exact hi
 ·fail"go";rename_i p2 hp2;have hk0:=(k8 m8).n_pos;exact q p2 _ ⟨k8 m8,[j]⟩ (by fail"sm") a0d ⟨by show 1=(k8 m8).n;omega,fun x hx=>by rw[List.mem_singleton.mp hx];exact hj,by simp⟩
include a6j in theorem d3q (F:Fun K "_law_turns" "_law_turns" b6d f fd):a2n P w K mg base CX0 3 f fd ["_law_cells","_law_n"] (c2b K):=by
 refine F.ok a7n (by fail"ln") ?_;fail"fi";obtain⟨l,n,ns,rfl,hl,hz,h0,hn,q⟩:=h
 refine⟨_,(@a0b _ _ _ _ _ (@a0q _ _ 2 _ _ _ _ a7n.nd rfl (Or.inl rfl) (@a5c _ _ _ _ a0c) (by rfl) (by first|exact .inl rfl|exact .inr rfl|assumption))
   (@a0b _ _ _ _ _ (a4e A1d rfl (a1q (pv 0)) (a1g (i:=3) a7n.nd rfl (Or.inl rfl)) (@a0b _ _ _ _ _ (@a0q _ _ 4 _ _ _ _ a7n.nd rfl (Or.inl rfl) (a0y a6j hr a0r (@a0a _ _ _ _ _ (pv 3) (@a0a _ _ _ _ _ (pv 1) a0c (by rfl)) (by rfl))) (by rfl) (by first|exact .inl rfl|exact .inr rfl|assumption))
   (@a0b _ _ _ _ _ (@a2c _ _ _ _ _ _ _ _ (@a0v _ _ _ _ _ _ _ _ a5t (@a0u _ _ _ _ _ _ _ a0p (pv 4) a0h (fun _ _=>rfl)) a1h (a1d _)) (@a0f _ _ _ (@a0q _ _ 4 _ _ _ _ a7n.nd rfl (Or.inl rfl) (@a1m _ _ _ _ _ (@a0a _ _ _ _ _ a1h (@a0a _ _ _ _ _ (@a0u _ _ _ _ _ _ _ a0p (pv 4) a0h (fun _ _=>rfl)) a0c (by rfl)) (by rfl))) (by rfl) (by first|exact .inl rfl|exact .inr rfl|assumption))) a0x)
   (@a0f _ _ _ (a1w (b8c A1j A1r A1s a4d (pv 2) (@a0a _ _ _ _ _ (pv 4) a0c (by rfl))))))))
   (@a0f _ _ _ (@a0t _ _ _ _ (pv 2))))),?_⟩
 fail"st";fail"go";rename_i pf hpf;refine a4m (fun P h=>⟨_,rfl,h⟩) ((a0e hpf _).seq hl) (fun i σ H'=>∃(u v:Option V) (bs:List Addr) (ds:List Dd),σ=[some (.ref l),some (.int n),some (.ref pf),u,v]/\a1n H H'/\H' pf=some (.lst (a1c bs))/\a2a (Wt H') bs ds/\(∀d∈ds,d.Ok n)/\ds.length=i) ⟨none,none,[],[],rfl,a0e hpf _,a0d,.nil,fun _ z=>(nomatch z),rfl⟩ ?_ ?_ ?_
 ·rintro i σ H' _ ⟨_,_,_,_,_,s,_⟩;exact s.seq hl
 ·rintro i y σ H' hy ⟨u,v,bs,ds,rfl,s,hf,hB,hok,hlen⟩;obtain⟨c,rfl⟩:=c8y hy;have hil:=(List.getElem?_eq_some_iff.1 hy).1;rw[A0b] at hil;fail"go";refine⟨c,n,rfl,h0,hn,fun p2 H2 d s2 hd ok=>?_⟩;fail"go"
  have fin:∀(e:Dd) (p3:Addr) (H3:Hp),a1n H2 H3->Wt H3 p3 e->e.Ok n->∃(u v:Option V) (bs':List Addr) (ds':List Dd),[some (.ref l),some (.int (n:Int)),some (.ref pf),some (.int c),some (.ref p3)]=[some (.ref l),some (.int (n:Int)),some (.ref pf),u,v]/\a1n H (upd H3 pf (.lst (a1c bs++[.ref p3])))/\(upd H3 pf (.lst (a1c bs++[.ref p3]))) pf=some (.lst (a1c bs'))/\a2a (Wt (upd H3 pf (.lst (a1c bs++[.ref p3])))) bs' ds'/\(∀d∈ds',d.Ok n)/\ds'.length=i+1:=fun e p3 H3 s3 h3 ok3=>by
   obtain⟨g1,g2,g3⟩:=wk_app ((s2.trans s3) _ _ hf) (hB.mono fun a d (x:Wt H' a d)=>(s2.trans s3) _ _ x) h3
   exact⟨_,_,bs++[p3],ds++[e],rfl,But.same (s.trans (s2.trans s3)) g3 hpf,g1,g2,fun d hd=>by
    rcases A0p.1 hd with z|z
    ·exact hok d z
    ·rw[A0h.1 z];exact ok3,by rw[A0j,hlen];rfl⟩
  have lbs:bs.length=ds.length:=hB.len;have hf2:=s2 _ _ hf;have sq2:SqL K H2 pf (a1c bs):=SqL.of hf2;have hle:(a1c bs).length<=900:=by rw[a0m];omega
  obtain⟨k,ws⟩:=d;have sq:SqT K H2 p2 (.str k.word::vn ws):=SqT.of hd;refine st_ixT sq (at0 _ _) ?_;fail"go"
  by_cases hk:k=.wher
  ·subst hk;obtain⟨i1,i2,rfl⟩:∃i1 i2,ws=[i1,i2]:=len2N ok.len;have sq1:SqT K H2 p2 [.str DK.wher.word,.int (i1:Int),.int (i2:Int)]:=sq;clear sq;refine ite_t (by decide +kernel) ?_;fail"go";rename_i p3 h3;exact fin ⟨.quarter,[i1]⟩ p3 _ (a0e h3 _) a0d ⟨rfl,fun x hx=>by rw[A0h.1 hx];exact ok.lt i1 (by simp),by simp⟩
  ·refine ite_f (fun z=>hk (by cases k<;>first|rfl|exact absurd z (by decide +kernel))) ?_
   fail"go";exact fin ⟨k,ws⟩ p2 H2 (a1n.refl _) hd ok
 ·rintro σ H' ⟨u,v,bs,ds,rfl,s,hf,hB,hok,hlen⟩;fail"go";exact q pf H' bs ds s hf hB hok
include a6p in theorem c6r (F:Fun K "_law_letters" "_law_letters" b2g f fd):a2n P w K mg base CX0 1 f fd ["_law_text"] (b7e K):=by
 refine F.ok a3s (by fail"ln") ?_;fail"fi";obtain⟨l,rfl,⟨hl,hs⟩,q⟩:=h
 refine⟨_,(@a0b _ _ _ _ _ (@a0q _ _ 1 _ _ _ _ a3s.nd rfl (Or.inl rfl) a0h (by rfl) (by first|exact .inl rfl|exact .inr rfl|assumption))
   (@a0b _ _ _ _ _ (@a0q _ _ 2 _ _ _ _ a3s.nd rfl (Or.inl rfl) a0h (by rfl) (by first|exact .inl rfl|exact .inr rfl|assumption))
   (@a0b _ _ _ _ _ (a4e A1d rfl (pi_enumS rfl a6p (@a0a _ _ _ _ _ (pv 0) a0c (by rfl))) (b8n rfl (a2b (a1g (i:=3) a3s.nd rfl (Or.inl rfl)) (a2b (a1g (i:=4) a3s.nd rfl (Or.inl rfl)) b2m))) (@a0b _ _ _ _ _ (@a2c _ _ _ _ _ _ _ _ (@a0v _ _ _ _ _ _ _ _ op_inS (pv 4) a1h rfl) (@a0f _ _ _ (@a0q _ _ 1 _ _ _ _ a3s.nd rfl (Or.inl rfl) (a0k a6x (pv 1) (a0k a3e a0h (pv 3))) (by rfl) (by first|exact .inl rfl|exact .inr rfl|assumption))) a0x)
   (@a0f _ _ _ (@a2c _ _ _ _ _ _ _ _ (@a0v _ _ _ _ _ _ _ _ op_inS (pv 4) a1h rfl) (@a0f _ _ _ (@a0q _ _ 2 _ _ _ _ a3s.nd rfl (Or.inl rfl) (a0k a6x (pv 2) (a0k a3e a0h (pv 3))) (by rfl) (by first|exact .inl rfl|exact .inr rfl|assumption))) a0x))))
   (@a0f _ _ _ (@a0t _ _ _ _ (@a1m _ _ _ _ _ (@a0a _ _ _ _ _ a0h (@a0a _ _ _ _ _ (pv 1) (@a0a _ _ _ _ _ (pv 2) a0c (by rfl)) (by rfl)) (by rfl)))))))),?_⟩
 fail"st";fail"go";generalize hX:(fun j=>isX (l.getD j 46))=fX;generalize hZ:(fun j=>isZ (l.getD j 46))=fZ;refine st_for_enumS (l:=l) (fun P h=>?_) (fun i σ H'=>∃(k u:Option V),σ=[some (T l),some (.int ((bsum fX i:Nat):Int)),some (.int ((bsum fZ i:Nat):Int)),k,u]/\a1n H H') ⟨_,_,rfl,a1n.refl _⟩ ?_ ?_
 ·fail"go";exact h
 ·rintro i c σ H' p hc ⟨k,u,rfl,s⟩ hp;have hi:i<l.length:=(List.getElem?_eq_some_iff.mp hc).1;have hs4:=hs c (List.mem_of_getElem? hc);have e2:l.getD i 46=c:=by rw[List.getD_eq_getElem?_getD,hc];rfl
  have eX:bsum fX (i+1)=bsum fX i+(isX c).toNat*2^i:=by
   rw[bsum,<- hX];show _+(isX (l.getD i 46)).toNat*2^i=_;rw[e2]
  have eZ:bsum fZ (i+1)=bsum fZ i+(isZ c).toNat*2^i:=by
   rw[bsum,<- hZ];show _+(isZ (l.getD i 46)).toNat*2^i=_;rw[e2]
  have n1:=s.trans (a0e hp (.tup [.int (i:Int),T [c]]));fail"go";refine⟨_,_,rfl,rfl,?_⟩;rw[in_xy hs4];have leaf:∀(b1 b2:Bool) (H2:Hp) (x y:Int),isX c=b1->isZ c=b2->x=((bsum fX i+b1.toNat*2^i:Nat):Int)->y=((bsum fZ i+b2.toNat*2^i:Nat):Int)->a1n H H2->∃(k u:Option V),[some (T l),some (.int x),some (.int y),some (.int (i:Int)),some (T [c])]=[some (T l),some (.int ((bsum fX (i+1):Nat):Int)),some (.int ((bsum fZ (i+1):Nat):Int)),k,u]/\a1n H H2:=fun b1 b2 H2 x y e1 e2 e3 e4 s=>⟨some (.int (i:Int)),some (T [c]),by rw[eX,eZ,e1,e2,e3,e4],s⟩
  cases hx:isX c with
  | true=>
   fail"go";refine⟨_,_,rfl,rfl,?_⟩;rw[in_zy hs4]
   cases hz:isZ c with
   | true=>
    fail"go";exact leaf true true _ _ _ hx hz (by rw[A4t,A7t];rfl) (by rw[A4t,A7t];rfl) n1
   | false=>
    fail"go";exact leaf true false _ _ _ hx hz (by rw[A4t,A7t];rfl) (by rw[A4k,A4r];rfl) n1
  | false=>
   fail"go";refine⟨_,_,rfl,rfl,?_⟩;rw[in_zy hs4]
   cases hz:isZ c with
   | true=>
    fail"go";exact leaf false true _ _ _ hx hz (by rw[A4k,A4r];rfl) (by rw[A4t,A7t];rfl) n1
   | false=>
    fail"go";exact leaf false false _ _ _ hx hz (by rw[A4k,A4r];rfl) (by rw[A4k,A4r];rfl) n1
 ·rintro σ H' ⟨k,u,rfl,s⟩;fail"go";rename_i p hp;refine q p _ (s.trans (a0e hp _)) ?_;rw[a0d,<- hX,<- hZ];rfl
theorem ok__law_on (F:Fun K "_law_on" "_law_on" c8c f fd):a2n P w K mg base CX0 1 f fd ["_law_words","_law_row_here"] (d2n K):=by
 refine F.ok a4a (by fail"ln") ?_;fail"fi";obtain⟨w,a,⟨k,ww⟩,n,r,rfl,hw,ok,hn,ha,q⟩:=h
 refine⟨_,(@a0b _ _ _ _ _ (ps_asg (pv 1) (b8n rfl (a2b (a1g (i:=2) a4a.nd rfl (Or.inl rfl)) (a2b (a1g (i:=3) a4a.nd rfl (Or.inl rfl)) (a2b (a1g (i:=4) a4a.nd rfl (Or.inl rfl)) b2m)))))
   (@a0b _ _ _ _ _ (@a0q _ _ 5 _ _ _ _ a4a.nd rfl (Or.inl rfl) (@a0u _ _ _ _ _ _ _ a0p (pv 0) (pe_un un_neg a0h) (fun _ _=>rfl)) (by rfl) (by first|exact .inl rfl|exact .inr rfl|assumption))
   (@a0b _ _ _ _ _ (@a0q _ _ 6 _ _ _ _ a4a.nd rfl (Or.inl rfl) (a0k a3f (a0k d2r (pv 3) (pv 5)) a0h) (by rfl) (by first|exact .inl rfl|exact .inr rfl|assumption))
   (@a0b _ _ _ _ _ (@a0q _ _ 7 _ _ _ _ a4a.nd rfl (Or.inl rfl) (a0k a3f (a0k d2r (pv 4) (pv 5)) a0h) (by rfl) (by first|exact .inl rfl|exact .inr rfl|assumption))
   (@a0b _ _ _ _ _ (@a2c _ _ _ _ _ _ _ _ (@a0v _ _ _ _ _ _ _ _ a5t (@a0u _ _ _ _ _ _ _ a0p (pv 0) a0h (fun _ _=>rfl)) a1h (a1d _)) (@a0f _ _ _ (@a0t _ _ _ _ (@a1m _ _ _ _ _ (@a0a _ _ _ _ _ (a0k a1t (pv 2) (pv 7)) (@a0a _ _ _ _ _ (pv 3) (@a0a _ _ _ _ _ (pv 4) a0c (by rfl)) (by rfl)) (by rfl))))) a0x)
   (@a0b _ _ _ _ _ (@a2c _ _ _ _ _ _ _ _ (@a0v _ _ _ _ _ _ _ _ a5t (@a0u _ _ _ _ _ _ _ a0p (pv 0) a0h (fun _ _=>rfl)) a1h (a1d _)) (@a0f _ _ _ (@a0t _ _ _ _ (@a1m _ _ _ _ _ (@a0a _ _ _ _ _ (a0k a1t (pv 2) (a0k a3f (pv 6) (pv 7))) (@a0a _ _ _ _ _ (pv 3) (@a0a _ _ _ _ _ (a0k a1t (pv 4) (a0k a3e (pv 6) (pv 5))) a0c (by rfl)) (by rfl)) (by rfl))))) a0x)
   (@a0b _ _ _ _ _ (@a2c _ _ _ _ _ _ _ _ (@a0v _ _ _ _ _ _ _ _ a5t (@a0u _ _ _ _ _ _ _ a0p (pv 0) a0h (fun _ _=>rfl)) a1h (a1d _)) (@a0f _ _ _ (@a0t _ _ _ _ (@a1m _ _ _ _ _ (@a0a _ _ _ _ _ (a0k a1t (pv 2) (a0k a3f (pv 6) (a0k b3n a0h (pv 7)))) (@a0a _ _ _ _ _ (pv 3) (@a0a _ _ _ _ _ (a0k a1t (pv 4) (a0k a3e (pv 6) (pv 5))) a0c (by rfl)) (by rfl)) (by rfl))))) a0x)
   (@a0b _ _ _ _ _ (@a2c _ _ _ _ _ _ _ _ (@a0v _ _ _ _ _ _ _ _ a5t (@a0u _ _ _ _ _ _ _ a0p (pv 0) a0h (fun _ _=>rfl)) a1h (a1d _)) (@a0f _ _ _ (@a0t _ _ _ _ (@a1m _ _ _ _ _ (@a0a _ _ _ _ _ (a0k a1t (pv 2) (a0k a3f (pv 6) (pv 7))) (@a0a _ _ _ _ _ (a0k a1t (pv 3) (a0k a3e (a0k a1t (pv 6) (pv 7)) (pv 5))) (@a0a _ _ _ _ _ (a0k a1t (pv 4) (a0k a3e (a0k a1t (pv 6) (pv 7)) (pv 5))) a0c (by rfl)) (by rfl)) (by rfl))))) a0x)
   (@a0b _ _ _ _ _ (@a0q _ _ 8 _ _ _ _ a4a.nd rfl (Or.inl rfl) (@a0u _ _ _ _ _ _ _ a0p (pv 0) a0h (fun _ _=>rfl)) (by rfl) (by first|exact .inl rfl|exact .inr rfl|assumption))
   (@a0b _ _ _ _ _ (@a0q _ _ 9 _ _ _ _ a4a.nd rfl (Or.inl rfl) (a0k a3f (a0k d2r (pv 3) (pv 8)) a0h) (by rfl) (by first|exact .inl rfl|exact .inr rfl|assumption))
   (@a0b _ _ _ _ _ (@a0q _ _ 10 _ _ _ _ a4a.nd rfl (Or.inl rfl) (a0k a3f (a0k d2r (pv 4) (pv 8)) a0h) (by rfl) (by first|exact .inl rfl|exact .inr rfl|assumption))
   (@a0b _ _ _ _ _ (@a2c _ _ _ _ _ _ _ _ (@a0v _ _ _ _ _ _ _ _ a5t (@a0u _ _ _ _ _ _ _ a0p (pv 0) a0h (fun _ _=>rfl)) a1h (a1d _)) (@a0f _ _ _ (@a0t _ _ _ _ (@a1m _ _ _ _ _ (@a0a _ _ _ _ _ (a0k a1t (pv 2) (a0k a3f (a0k a3f (pv 9) (pv 7)) (a0k a1t (a0k a1t a0h (pv 6)) (pv 10)))) (@a0a _ _ _ _ _ (a0k a1t (pv 3) (a0k a3e (pv 9) (pv 5))) (@a0a _ _ _ _ _ (a0k a1t (pv 4) (a0k a3e (pv 7) (pv 8))) a0c (by rfl)) (by rfl)) (by rfl))))) a0x)
   (@a0b _ _ _ _ _ (@a0q _ _ 3 _ _ _ _ a4a.nd rfl (Or.inl rfl) (a0k a1t (a0k a1t (pv 3) (a0k a3e (a0k a1t (pv 6) (pv 9)) (pv 5))) (a0k a3e (a0k a1t (pv 6) (pv 9)) (pv 8))) (by rfl) (by first|exact .inl rfl|exact .inr rfl|assumption))
   (@a0f _ _ _ (@a0t _ _ _ _ (@a1m _ _ _ _ _ (@a0a _ _ _ _ _ (pv 2) (@a0a _ _ _ _ _ (pv 3) (@a0a _ _ _ _ _ (a0k a1t (a0k a1t (pv 4) (a0k a3e (a0k a1t (pv 7) (pv 10)) (pv 5))) (a0k a3e (a0k a1t (pv 7) (pv 10)) (pv 8))) a0c (by rfl)) (by rfl)) (by rfl)))))))))))))))))),?_⟩
 fail"st";have hlen:=ok.len;have hlt:=ok.lt;have hnd:=ok.nd;unfold Wt at hw;dsimp only at hw hlen hlt hnd q;have ha':=SqT.of (K:=K) ha;unfold Row.V at ha';have q':∀p H' (r':Row),a1n H H'->H' p=some (.tup r'.V)->r'=act ⟨k,ww⟩ r->Q (.ref p) H':=fun p H' r' s e e2=>q p H' s (by rw[<- e2];exact e)
 cases k with
 | over=>
  obtain⟨i,rfl⟩:=a9s hlen;have hi:i<n:=hlt i (by simp);have hw':SqT K H w [.str (DK.word .over),.int (i:Nat)]:=SqT.of hw;fail"kw";rename_i p hp;exact q' p _ ⟨_,_,_⟩ (a0e hp _) a0d rfl
 | quarter=>
  obtain⟨i,rfl⟩:=a9s hlen;have hi:i<n:=hlt i (by simp);have hw':SqT K H w [.str (DK.word .quarter),.int (i:Nat)]:=SqT.of hw;fail"kw";rename_i p hp;exact q' p _ ⟨_,_,_⟩ (a0e hp _) a0d rfl
 | back=>
  obtain⟨i,rfl⟩:=a9s hlen;have hi:i<n:=hlt i (by simp);have hw':SqT K H w [.str (DK.word .back),.int (i:Nat)]:=SqT.of hw;fail"kw";rename_i p hp;exact q' p _ ⟨_,_,_⟩ (a0e hp _) a0d rfl
 | both=>
  obtain⟨i,rfl⟩:=a9s hlen;have hi:i<n:=hlt i (by simp);have hw':SqT K H w [.str (DK.word .both),.int (i:Nat)]:=SqT.of hw;fail"kw";rename_i p hp;exact q' p _ ⟨_,_,_⟩ (a0e hp _) a0d rfl
 | wher=>
  obtain⟨i,j,rfl⟩:=b6y hlen;have hi:i<n:=hlt i (by simp);have hj:j<n:=hlt j (by simp);have hw':SqT K H w [.str (DK.word .wher),.int (i:Nat),.int (j:Nat)]:=SqT.of hw;fail"kw";rename_i p hp;rw[wh_bit];exact q' p _ ⟨_,_,_⟩ (a0e hp _) a0d rfl
 | swap=>
  obtain⟨i,j,rfl⟩:=b6y hlen;have hi:i<n:=hlt i (by simp);have hj:j<n:=hlt j (by simp);have hw':SqT K H w [.str (DK.word .swap),.int (i:Nat),.int (j:Nat)]:=SqT.of hw;fail"kw";rename_i p hp;rw[ex_turn,ex_turn];exact q' p _ ⟨_,_,_⟩ (a0e hp _) a0d rfl
include c0j in theorem d0w (F:Fun K "_law_behind" "_law_behind" b4m f fd):a2n P w K mg base CX0 2 f fd ["_law_work","_law_row_here"] (b8h K):=by
 refine F.ok b2e (by fail"ln") ?_;fail"fi";obtain⟨l,b,n,as,ds,r,rfl,hl,has,hok,hn,hb,q⟩:=h
 refine⟨_,(@a0b _ _ _ _ _ (a4e A1d rfl (a1q (pv 0)) (a1g (i:=2) b2e.nd rfl (Or.inl rfl)) (@a0f _ _ _ (@a0q _ _ 1 _ _ _ _ b2e.nd rfl (Or.inl rfl) (a0y c0j hr a0r (@a0a _ _ _ _ _ (pv 2) (@a0a _ _ _ _ _ (pv 1) a0c (by rfl)) (by rfl))) (by rfl) (by first|exact .inl rfl|exact .inr rfl|assumption))))
   (@a0f _ _ _ (@a0t _ _ _ _ (pv 1)))),?_⟩
 fail"st";fail"go";refine a4m (fun P h=>⟨_,rfl,h⟩) hl (fun i σ H'=>∃(c:Addr) (u:Option V),σ=[some (.ref l),some (.ref c),u]/\a1n H H'/\H' c=some (.tup (acts (ds.take i) r).V)) ⟨b,none,rfl,a1n.refl _,hb⟩ ?_ ?_ ?_
 ·rintro i σ H' _ ⟨c,u,_,hS,_⟩;exact hS.seq hl
 ·rintro i x σ H' hx ⟨c,u,rfl,hS,hc⟩;obtain⟨a,ha,rfl⟩:=a1r hx;obtain⟨d,hd,hda⟩:=has.get ha;fail"go";refine⟨a,c,d,n,acts (ds.take i) r,rfl,hS _ _ hda,hok d (List.mem_of_getElem? hd),hn,hc,fun p H2 hS2 hp2=>?_⟩;fail"go";refine⟨p,_,rfl,hS.trans hS2,?_⟩;rw[acts_take r hd];exact hp2
 ·rintro σ H' ⟨c,u,rfl,hS,hc⟩;fail"go";rw[a0m,has.len,A0t] at hc;exact q c H' hS hc
include a5v a3q a2k a6j a2y b2c b1q a5z a7b in theorem ok__law_code (F:Fun K "_law_code" "_law_code" a6n f fd):a2n P w K mg base CX0 4 f fd ["_law_script"] (c4c K):=by
 refine F.ok a2p (by fail"ln") ?_;fail"fi";obtain⟨a,ns,rfl,ha,q⟩:=h
 refine⟨_,(@a0b _ _ _ _ _ (@a0q _ _ 1 _ _ _ _ a2p.nd rfl (Or.inl rfl) (a0y a2y hr a0r (@a0a _ _ _ _ _ (pv 0) (@a0a _ _ _ _ _ a0h a0c (by rfl)) (by rfl))) (by rfl) (by first|exact .inl rfl|exact .inr rfl|assumption))
   (@a0b _ _ _ _ _ (@a2c _ _ _ _ _ _ _ _ (@a0v _ _ _ _ _ _ _ _ op_lt (a0k a6d (pv 1) a0h) a0h (a1d _)) (@a0b _ _ _ _ _ (ps_asg (a0y b2c hr a0r (@a0a _ _ _ _ _ (a0k a6d (pv 1) a0h) a0c (by rfl))) (b8n rfl (a2b (a1g (i:=2) a2p.nd rfl (Or.inr rfl)) (a2b (a1g (i:=3) a2p.nd rfl (Or.inl rfl)) b2m))))
   (@a0b _ _ _ _ _ (ps_setC (i:=4) rfl (Or.inl rfl) (sc:=a0g a6n) rfl (by fail"k5") (by show ("_law_text":Str)∉(["_law_script","_law_cell","_law_n","_law_texts","_law_rows","_law_work","_law_full"]:List Str);decide +kernel) (by show (".0":Str)∉(["_law_script","_law_cell","_law_n","_law_texts","_law_rows","_law_work","_law_full"]:List Str);decide +kernel) a2p.nd rfl (a1q (pv 3)) (fun _ _ _ _=>a2q) (fun _ _ _ _=>(a0y a5z hr a0r (@a0a _ _ _ _ _ (pv 0) a0c (by rfl)))))
   (@a0b _ _ _ _ _ (@a0q _ _ 5 _ _ _ _ a2p.nd rfl (Or.inr rfl) (a0y b1q hr a0r (@a0a _ _ _ _ _ (a0y a2k hr a0r (@a0a _ _ _ _ _ (a0y a2y hr a0r (@a0a _ _ _ _ _ (pv 0) (@a0a _ _ _ _ _ a0h a0c (by rfl)) (by rfl))) (@a0a _ _ _ _ _ a0h a0c (by rfl)) (by rfl))) (@a0a _ _ _ _ _ (pv 2) a0c (by rfl)) (by rfl))) (by rfl) (by first|exact .inl rfl|exact .inr rfl|assumption))
   (@a0b _ _ _ _ _ (@a0q _ _ 6 _ _ _ _ a2p.nd rfl (Or.inl rfl) (a0k d3g (pv 4) (@a5c _ _ _ _ (@a0a _ _ _ _ _ (a0y a5z hr a0r (@a0a _ _ _ _ _ (@a0u _ _ _ _ _ _ _ b3u (@a5c _ _ _ _ (@a0a _ _ _ _ _ a1h (@a0a _ _ _ _ _ a1h (@a0a _ _ _ _ _ a1h a0c (by rfl)) (by rfl)) (by rfl))) (a0k a6d (pv 1) a0h) (fun _ _=>rfl)) a0c (by rfl))) a0c (by rfl)))) (by rfl) (by first|exact .inl rfl|exact .inr rfl|assumption))
   (@a0f _ _ _ (@a0t _ _ _ _ (@a1m _ _ _ _ _ (@a0a _ _ _ _ _ (pv 2) (@a0a _ _ _ _ _ (a3d (sc:=a0g a6n) rfl (by fail"k5") (by show ("_law_row_here":Str)∉(["_law_script","_law_cell","_law_n","_law_texts","_law_rows","_law_work","_law_full"]:List Str);decide +kernel) (by show (".0":Str)∉(["_law_script","_law_cell","_law_n","_law_texts","_law_rows","_law_work","_law_full"]:List Str);decide +kernel) a2p.nd rfl (a1q (pv 6)) (fun _ _ _ _=>a2q) (fun _ _ _ _=>(a0y a7b hr a0r (@a0a _ _ _ _ _ (pv 6) (@a0a _ _ _ _ _ (pv 0) a0c (by rfl)) (by rfl))))) (@a0a _ _ _ _ _ (a1x a4s rfl a5v A3k (@a0a _ _ _ _ _ (pv 4) a0c (by rfl))) a0c (by rfl)) (by rfl)) (by rfl))))))))) a0x)
   (@a0b _ _ _ _ _ (@a0q _ _ 2 _ _ _ _ a2p.nd rfl (Or.inr rfl) (a0k a6x a0h (a0k a6d (a0k a8b (pv 1) a0h) a0h)) (by rfl) (by first|exact .inl rfl|exact .inr rfl|assumption))
   (@a0b _ _ _ _ _ (@a0q _ _ 5 _ _ _ _ a2p.nd rfl (Or.inr rfl) (a3d (sc:=a0g a6n) rfl (by fail"k5") (by show ("_law_x":Str)∉(["_law_script","_law_cell","_law_n","_law_texts","_law_rows","_law_work","_law_full"]:List Str);decide +kernel) (by show (".0":Str)∉(["_law_script","_law_cell","_law_n","_law_texts","_law_rows","_law_work","_law_full"]:List Str);decide +kernel) a2p.nd rfl (a1q (a0y a2k hr a0r (@a0a _ _ _ _ _ (a0y a2y hr a0r (@a0a _ _ _ _ _ (pv 0) (@a0a _ _ _ _ _ a0h a0c (by rfl)) (by rfl))) (@a0a _ _ _ _ _ a0h a0c (by rfl)) (by rfl)))) (fun _ _ _ _=>a2q) (fun _ _ _ _=>(a0y a6j hr a0r (@a0a _ _ _ _ _ (pv 0) (@a0a _ _ _ _ _ (pv 3) a0c (by rfl)) (by rfl))))) (by rfl) (by first|exact .inl rfl|exact .inr rfl|assumption))
   (@a0f _ _ _ (@a0t _ _ _ _ (@a1m _ _ _ _ _ (@a0a _ _ _ _ _ (pv 2) (@a0a _ _ _ _ _ (a3d (sc:=a0g a6n) rfl (by fail"k5") (by show ("_law_k":Str)∉(["_law_script","_law_cell","_law_n","_law_texts","_law_rows","_law_work","_law_full"]:List Str);decide +kernel) (by show (".0":Str)∉(["_law_script","_law_cell","_law_n","_law_texts","_law_rows","_law_work","_law_full"]:List Str);decide +kernel) a2p.nd rfl (b1a rfl a3q (@a0a _ _ _ _ _ (pv 2) a0c (by rfl))) (fun _ _ _ _=>a2q) (fun _ _ _ _=>(a0y a7b hr a0r (@a0a _ _ _ _ _ (pv 6) (@a0a _ _ _ _ _ (@a1m _ _ _ _ _ (@a0a _ _ _ _ _ a0h (@a0a _ _ _ _ _ a0h (@a0a _ _ _ _ _ (a0k a3e a0h (pv 0)) a0c (by rfl)) (by rfl)) (by rfl))) a0c (by rfl)) (by rfl))))) (@a0a _ _ _ _ _ (a0k a6d (a0k a8b (pv 1) a0h) (a0k a6x (pv 2) a0h)) a0c (by rfl)) (by rfl)) (by rfl))))))))),?_⟩
 fail"st";fail"go";refine⟨a,0,ns,rfl,ha,fun c hc=>?_⟩;clear hc;fail"go";obtain⟨w5,ew,hw5⟩:∃w5:Nat,c%5=(w5:Int)/\w5<5:=⟨(c%5).toNat,by omega,by omega⟩;rw[ew];refine b8w (fun c3=>?_) (fun c3=>?_)
 ·have hw3:w5<3:=by omega
  obtain⟨kp,n0,n9,km⟩:=kF_kept hw3;obtain⟨ok1,ok2,ok3⟩:=kn_ok hw3;have ex:=kx_at hw3;unfold kF at kp;fail"go";refine⟨w5,by rw[ew];rfl,hw3,fun p1 l1 H1 s1 f1 g1=>?_⟩;generalize (kn w5).1=n at *
  generalize (kn w5).2=ts at *
  generalize kx w5=tx at *
  have lts:ts.length<=9:=by omega
  have sq1:=SqT.of (K:=K) g1;fail"go";refine a1z (fun P h=>⟨_,rfl,h⟩) (SqL.of f1) (fun i ys H'=>a1n H1 H'/\∃bs,ys=a1c bs/\a2a (Rt K H') bs ((ts.take i).map (wrow n))) (by rw[A0b];omega) ⟨a1n.refl _,[],rfl,.nil⟩ ?_ ?_ ?_ ?_
  ·rintro i ys H' ⟨_,bs,rfl,e⟩;rw[a0m,e.len,A0b,A0q];omega
  ·rintro i ys H' ⟨s,_⟩;exact SqL.of (s _ _ f1)
  ·rintro i x ys H' hx ⟨s,bs,rfl,e⟩;rw[List.getElem?_map] at hx
   cases et:ts[i]? with
   | none=>rw[et] at hx;cases hx
   | some t'=>
   rw[et] at hx;obtain rfl:=A0s hx;obtain⟨e1,e2⟩:=ok1 t' (List.mem_of_getElem? et);fail"go";refine⟨t',rfl,e2,fun p2 H2 s2 f2=>?_⟩;rw[e1] at f2;refine⟨s.trans s2,bs++[p2],a2f _ _,?_⟩;rw[a0s et,A0f];exact(e.mono fun a d x=>Rt.same s2 x).snoc f2
  ·rintro ys H2 ⟨s2,bs,rfl,e⟩ p2 hp2;rw[A0b,A0t] at e;have lbs:=e.len;rw[A0b] at lbs;have S2:=s1.trans (s2.trans (a0e hp2 (.lst (a1c bs))));have f2:(upd H2 p2 (.lst (a1c bs))) p2=some (.lst (a1c bs)):=a0d;have E2:=e.mono fun a d (x:Rt K H2 a d)=>Rt.same (a0e hp2 (.lst (a1c bs))) x;generalize upd H2 p2 (.lst (a1c bs))=G2 at S2 f2 E2 ⊢;fail"go";refine⟨a,1,ns,rfl,S2.seq ha,fun c1 _=>?_⟩;fail"go";refine⟨c1,9,rfl,by decide,fun p3 H3 ms s3 f3 l3 _=>?_⟩;fail"go";refine⟨p3,n,ms,rfl,SqL.of f3,by omega,n0,by omega,fun p4 H4 cs ds s4 f4 W4 hok=>?_⟩;fail"go";rename_i p5 hp5;rw[ew];refine c8r (SqL.of a0d) ex ?_;fail"go";refine⟨tx,rfl,ok3,fun p6 H6 s6 f6=>?_⟩;rw[ok2] at f6;fail"go";rename_i p7 hp7;have S7:=(a0e hp5 (.lst [V.str "zzzzz",.str "zzzzzzz",.str "xxxxxxxxx"])).trans (s6.trans (a0e hp7 (.lst [.ref p6])));have f7:(upd H6 p7 (.lst [.ref p6])) p7=some (.lst [.ref p6]):=a0d;have f76:=a0e hp7 (.lst [.ref p6]) _ _ f6;generalize upd H6 p7 (.lst [.ref p6])=H7 at S7 f7 f76 ⊢;have S27:=s3.trans (s4.trans S7);refine st_cat (S27 _ _ f2) f7 (by rw[a0m];show _+1<=_;omega) fun p8 hp8=>?_;have S8:=a0e hp8 (.lst (a1c bs++[.ref p6]));have f8:(upd H7 p8 (.lst (a1c bs++[.ref p6]))) p8=some (.lst (a1c (bs++[p6]))):=by rw[a0d,a2f]
   have S28:=S27.trans S8
   have E8:a2a (Rt K (upd H7 p8 (.lst (a1c bs++[.ref p6])))) (bs++[p6]) ((ts++[tx]).map (wrow n)):=by
    rw[A0f];exact(E2.mono fun a d x=>Rt.same S28 x).snoc (S8 _ _ f76)
   generalize upd H7 p8 (.lst (a1c bs++[.ref p6]))=H8 at S8 f8 S28 E8 ⊢;generalize (ts++[tx]).map (wrow n)=us at E8 kp;have S48:=S7.trans S8;have f48:=S48 _ _ f4;have W8:=W4.mono fun a d (x:Wt H4 a d)=>S48 _ _ x;have S:=S2.trans S28;have lb6:=E8.len;have lus:=kp.len;clear S48 S8 S7 f7 f76 S27 W4 f4 hp8 hp7 hp5 s6;fail"go";refine a1z (fun P h=>⟨_,rfl,h⟩) (SqL.of f8) (fun i ys H'=>a1n H8 H'/\∃zs,ys=a1c zs/\a2a (Rt K H') zs ((us.take i).map (acts ds))) (by rw[a0m];omega) ⟨a1n.refl _,[],rfl,.nil⟩ ?_ ?_ ?_ ?_
   ·rintro i ys H' ⟨_,zs,rfl,e⟩;rw[a0m,e.len,A0b,A0q];omega
   ·rintro i ys H' ⟨s,_⟩;exact SqL.of (s _ _ f8)
   ·rintro i x ys H' hx ⟨s,zs,rfl,e⟩;obtain⟨b,hb,rfl⟩:=a1r hx;obtain⟨r,hr',hrb⟩:=E8.get hb;fail"go";refine⟨p4,b,n,cs,ds,r,rfl,SqL.of (s _ _ f48),W8.mono fun a d x=>s _ _ x,hok,by omega,Rt.same s hrb,fun p9 H9 s9 f9=>?_⟩;refine⟨s.trans s9,zs++[p9],a2f _ _,?_⟩;rw[a0s hr',A0f];exact(e.mono fun a d x=>Rt.same s9 x).snoc f9
   ·rintro ys H9 ⟨s9,zs,rfl,e9⟩ p9 hp9;rw[a0m,lb6,A0t] at e9;have n9':=a0e hp9 (.lst (a1c zs));have sl:SqL K (upd H9 p9 (.lst (a1c zs))) p2 (a1c bs):=SqL.of (n9' _ _ ((S28.trans s9) _ _ f2));fail"go";rename_i p10 hp10;rw[a0m,lbs];have n10:=a0e hp10 (.tup [.int (n:Int),.ref p9,.int (ts.length:Int)]);exact q p10 p9 _ n ts.length zs _ (S.trans (s9.trans (n9'.trans n10))) a0d (n10 _ _ a0d) (e9.mono fun a d x=>Rt.same (n9'.trans n10) x) (kp.acts hok) n0 n9 km
 ·fail"go";obtain⟨n,en,n0,n6⟩:∃n:Nat,1+c/5%6=(n:Int)/\0<n/\n<=6:=⟨(1+c/5%6).toNat,by omega,by omega,by omega⟩;rw[en];refine st_cqE ?_;fail"go";refine⟨a,1,ns,rfl,ha,fun c1 _=>?_⟩;fail"go";refine⟨c1,14,rfl,by decide,fun p3 H3 ms s3 f3 l3 _=>?_⟩;refine st_cqAt (SqL.of f3) (fun i ys H'=>a1n H3 H'/\∃bs ds,ys=a1c bs/\a2a (Wt H') bs ds/\(∀d∈ds,d.Ok n)/\ds.length=i) (by rw[A0b];omega) ⟨a1n.refl _,[],[],rfl,.nil,fun _ z=>(nomatch z),rfl⟩ ?_ ?_ ?_ ?_
  ·rintro i ys H' ⟨_,bs,ds,rfl,e,_,hl⟩;rw[a0m,e.len,hl];exact A0k _
  ·rintro i ys H' ⟨s,_⟩;exact SqL.of (s _ _ f3)
  ·rintro i x ys H' hx ⟨s,bs,ds,rfl,e,hok,hl⟩;obtain⟨y,rfl⟩:=c8y hx;refine st_yes ?_;fail"go";refine⟨y,n,rfl,n0,by omega,fun p4 H4 d s4 f4 ok4=>?_⟩;fail"go"
   exact⟨s.trans s4,bs++[p4],ds++[d],a2f _ _,(e.mono fun a d (x:Wt H' a d)=>s4 _ _ x).snoc f4,fun e he=>by
    rcases A0p.1 he with z|z
    ·exact hok e z
    ·rw[A0h.1 z];exact ok4,by rw[A0j,hl];rfl⟩
  ·rintro ys H4 ⟨s4,bs,ds,rfl,e,hok,hl⟩ p4 hp4;rw[A0b,l3] at hl;have S4:=s3.trans (s4.trans (a0e hp4 (.lst (a1c bs))));have f4:(upd H4 p4 (.lst (a1c bs))) p4=some (.lst (a1c bs)):=a0d;have W4:=e.mono fun a d (x:Wt H4 a d)=>a0e hp4 (.lst (a1c bs)) _ _ x;generalize upd H4 p4 (.lst (a1c bs))=G4 at S4 f4 W4 ⊢;have ks:=(d2m.start (n:=n) (by omega)).acts hok;rw[A3u] at ks;fail"go";refine b4j (n:=n) (by omega) (fun P h=>⟨_,rfl,h⟩) (fun i ys H'=>a1n G4 H'/\∃zs,ys=a1c zs/\a2a (Rt K H') zs ((A3a i).map fun k=>acts ds ⟨0,0,2^k⟩)) ⟨a1n.refl _,[],rfl,.nil⟩ ?_ ?_ ?_
   ·rintro i ys H' ⟨_,zs,rfl,e⟩;rw[a0m,e.len,A0b,A3w];exact A0k _
   ·rintro i ys H' hi ⟨s,zs,rfl,e⟩;refine st_yes ?_;fail"go";rename_i p5 hp5;have n5:=a0e hp5 (.tup [.int 0,.int 0,.int ((2^i:Nat):Int)]);refine⟨p4,p5,n,bs,ds,⟨0,0,2^i⟩,rfl,SqL.of (n5 _ _ (s _ _ f4)),W4.mono fun a d (x:Wt G4 a d)=>n5 _ _ (s _ _ x),hok,by omega,a0d,fun p6 H6 s6 f6=>?_⟩;refine⟨s.trans (n5.trans s6),zs++[p6],a2f _ _,?_⟩;rw[A7h,A0f];exact(e.mono fun a d x=>Rt.same (n5.trans s6) x).snoc f6
   ·rintro ys H5 ⟨s5,zs,rfl,e5⟩ p5 hp5;fail"go";rename_i p6 hp6;obtain⟨m,em,hm⟩:∃m:Nat,c/30%((n:Int)+1)=(m:Int)/\m<=n:=⟨(c/30%((n:Int)+1)).toNat,(Int.toNat_of_nonneg (A5y _ (by omega))).symm,by have:=A5u (c/30) (show 0<(n:Int)+1 by omega);omega⟩;rw[em];have n5:=a0e hp5 (.lst (a1c zs));have n6:=a0e hp6 (.tup [.int (n:Int),.ref p5,.int (m:Int)]);exact q p6 p5 _ n m zs _ (S4.trans (s5.trans (n5.trans n6))) a0d (n6 _ _ a0d) (e5.mono fun a d x=>Rt.same (n5.trans n6) x) ks n0 (by omega) hm
theorem ok__law_ones (F:Fun K "_law_ones" "_law_ones" b9d f fd):a2n P w K mg base CX0 1 f fd ["_law_number"] (c4h K):=by
 refine F.ok b2d (by fail"ln") ?_;fail"fi";obtain⟨n,rfl,q⟩:=h
 refine⟨_,(@a0b _ _ _ _ _ (@a0q _ _ 1 _ _ _ _ b2d.nd rfl (Or.inl rfl) a0h (by rfl) (by first|exact .inl rfl|exact .inr rfl|assumption))
   (@a0b _ _ _ _ _ (ps_while A1d (@a0v _ _ _ _ _ _ _ _ op_gt (pv 0) a0h (a1d _)) (@a0b _ _ _ _ _ (@a0q _ _ 1 _ _ _ _ b2d.nd rfl (Or.inl rfl) (a0k a6x (pv 1) (a0k a6d (pv 0) a0h)) (by rfl) (by first|exact .inl rfl|exact .inr rfl|assumption))
   (@a0f _ _ _ (@a0q _ _ 0 _ _ _ _ b2d.nd rfl (Or.inl rfl) (a0k a8b (pv 0) a0h) (by rfl) (by first|exact .inl rfl|exact .inr rfl|assumption)))))
   (@a0f _ _ _ (@a0t _ _ _ _ (pv 1))))),?_⟩
 fail"go";refine⟨fun m σ H'=>∃k r:Nat,σ=[some (.int r),some (.int k)]/\H'=H/\m=r/\k+pop r=pop n,⟨n,0,n,rfl,rfl,rfl,by omega⟩,?_⟩;rintro m σ H' ⟨k,r,rfl,rfl,rfl,e⟩;fail"go";refine b8w (fun c=>?_) (fun c=>?_)
 ·have c':0<m:=by omega
  refine⟨fun σ' H1=>∃k r:Nat,σ'=[some (.int r),some (.int k)]/\H1=H'/\r<m/\k+pop r=pop n,fun σ' H1 ⟨k,r,e1,e2,e3,e4⟩=>⟨r,e3,k,r,e1,e2,rfl,e4⟩,?_⟩;fail"go";have hs:=b0c m;refine⟨k+m%2,m/2,?_,rfl,by omega,by omega⟩;rw[show (k:Int)+(m:Int)%2=((k+m%2:Nat):Int) from by push_cast;rfl]
  first
  | rfl
  | (rw[show (m:Int)/2=((m/2:Nat):Int) from by push_cast;rfl];rfl)
 ·have c':m=0:=by omega
  subst c';rw[a9t,Nat.add_zero] at e;subst e;fail"go";exact q
include a5k in theorem d0v (F:Fun K "_law_beside" "_law_beside" b3v f fd):a2n P w K mg base CX0 2 f fd ["_law_one","_law_other"] (b8r K):=by
 refine F.ok d1t (by fail"ln") ?_;fail"fi";obtain⟨a,b,r,s,rfl,ha,hb,q⟩:=h;refine⟨_,(@a0f _ _ _ (@a0t _ _ _ _ (b2j a5t (a0k a6d (a0k a6x (a0y a5k hr a0r (@a0a _ _ _ _ _ (a0k a3f (@a0u _ _ _ _ _ _ _ a0p (pv 0) a0h (fun _ _=>rfl)) (@a0u _ _ _ _ _ _ _ a0p (pv 1) a0h (fun _ _=>rfl))) a0c (by rfl))) (a0y a5k hr a0r (@a0a _ _ _ _ _ (a0k a3f (@a0u _ _ _ _ _ _ _ a0p (pv 0) a0h (fun _ _=>rfl)) (@a0u _ _ _ _ _ _ _ a0p (pv 1) a0h (fun _ _=>rfl))) a0c (by rfl)))) a0h) a0h (a1d _)))),?_⟩;fail"st";unfold Row.V at ha hb;fail"go";refine⟨_,rfl,?_⟩;fail"go";refine⟨_,rfl,?_⟩;fail"go"
 have e:decide (((pop (r.x&&&s.z):Int)+(pop (r.z&&&s.x):Int))%2=0) = !a2v r s:=by
  have h:=b1n r s;have h2:=b4u (r.x&&&s.z) (r.z&&&s.x);cases e:a2v r s
  ·have h3:=h.1 e;exact decide_eq_true (by omega)
  ·exact decide_eq_false fun z=>by rw[h.2 (by omega)] at e;cases e
 rw[e];exact q
include a5k in theorem d0m (F:Fun K "_law_weight" "_law_weight" b4p f fd):a2n P w K mg base CX0 2 f fd ["_law_row_here"] (b8q K):=by
 refine F.ok d1g (by fail"ln") ?_;fail"fi";obtain⟨a,u,rfl,ha,q⟩:=h;refine⟨_,(@a0f _ _ _ (@a0t _ _ _ _ (a0y a5k hr a0r (@a0a _ _ _ _ _ (a0k c3e (@a0u _ _ _ _ _ _ _ a0p (pv 0) a0h (fun _ _=>rfl)) (@a0u _ _ _ _ _ _ _ a0p (pv 0) a0h (fun _ _=>rfl))) a0c (by rfl))))),?_⟩;fail"st";unfold Row.V at ha;fail"go";exact⟨_,rfl,q⟩
include d0e a3g in theorem d7d (F:Fun K "_law_signs" "_law_signs" b2a f fd):a2n P w K mg base CX0 3 f fd ["_law_rows","_law_wrong_here"] (c1j K):=by
 refine F.ok c0a (by fail"ln") ?_;fail"fi";obtain⟨l,a,as,rs,u,rfl,hl,hW,hz,ha,q⟩:=h;refine⟨_,(@a0f _ _ _ (@a0t _ _ _ _ (a3d (sc:=a0g b2a) rfl (by fail"k5") (by show ("_law_row_here":Str)∉(["_law_rows","_law_wrong_here"]:List Str);decide +kernel) (by show (".0":Str)∉(["_law_rows","_law_wrong_here"]:List Str);decide +kernel) c0a.nd rfl (a1q (pv 0)) (fun _ _ _ _=>a2q) (fun _ _ _ _=>(a0k b3n a0h (a9a call_intB rfl d0e d6g (@a0a _ _ _ _ _ (a0y a3g hr a0r (@a0a _ _ _ _ _ (pv 0) (@a0a _ _ _ _ _ (pv 2) a0c (by rfl)) (by rfl))) a0c (by rfl)))))))),?_⟩;fail"go";refine a1z (fun P h=>⟨_,rfl,h⟩) hl (fun i ys H'=>H'=H/\ys=vn (sig (rs.take i) u)) (by rw[a0m];omega) ⟨rfl,rfl⟩ ?_ ?_ ?_ ?_
 ·rintro i ys H' ⟨_,rfl⟩;rw[a6z];unfold sig;rw[A0b,A0q];omega
 ·rintro i ys H' ⟨rfl,_⟩;exact hl
 ·rintro i x ys H' hx ⟨rfl,rfl⟩;obtain⟨b,hb,rfl⟩:=a1r hx;obtain⟨r,hr,hrb⟩:=hW.get hb;fail"go";refine⟨b,a,r,u,rfl,SqT.of hrb,SqT.of ha,?_⟩;fail"go";refine⟨rfl,?_⟩;unfold sig;rw[a0s hr,A0f,<- c2c];show _=_++[V.int (((a2v r u).toNat:Nat):Int)];cases a2v r u<;>rfl
 ·rintro ys H' ⟨rfl,rfl⟩ p hp;rw[a0m,hW.len,A0t];exact q p hp
include a1a d0e c9d in theorem d4d (F:Fun K "_law_whole" "_law_whole" b6k f fd):a2n P w K mg base CX0 1 f fd ["_law_found"] (c1p K):=by
 refine F.ok d5n (by fail"ln") ?_;fail"fi";obtain⟨v,b,rfl,⟨t,b1,b2,ty,e1,e2,rfl⟩,q⟩:=h;refine⟨_,(@a0f _ _ _ (@a0t _ _ _ _ (pe_and (b6w rfl a1a (pv 0) d0e d6g) (pe_one (pe_not (b6w rfl a1a (pv 0) c9d boot_bool)))))),?_⟩;fail"st";fail"go";refine d3c ty e1 ?_
 cases b1 with
 | false=>
  fail"go";exact q
 | true=>
  fail"go";refine d3c ty e2 ?_;fail"go";exact q
include a9z a5v a1a a5r b1x in theorem ok__law_row (F:Fun K "_law_row" "_law_row" b7p f fd):a2n P w K mg base CX0 2 f fd ["_law_found","_law_n"] (c9f K):=by
 refine F.ok c8t (by fail"ln") ?_;fail"fi";obtain⟨a,n,r,rfl,ha,ok,hn,q⟩:=h
 refine⟨_,(@a0b _ _ _ _ _ (@a2c _ _ _ _ _ _ _ _ (PW.pt (b1h (a4g (a3t (b6w rfl a1a (pv 0) a5r b3m))) (b1h (@a0v _ _ _ _ _ _ _ _ c5k (a1x a4s rfl a5v A3k (@a0a _ _ _ _ _ (pv 0) a0c (by rfl))) a0h (a1d _)) (b0y (a4g (a3t (a1x (a7p rfl) rfl a9z a9w (@a0a _ _ _ _ _ (a3d (sc:=a0g b7p) rfl (by fail"k5") (by show ("_law_part":Str)∉(["_law_found","_law_n"]:List Str);decide +kernel) (by show (".0":Str)∉(["_law_found","_law_n"]:List Str);decide +kernel) c8t.nd rfl (pi_tup (pv 0)) (fun _ _ _ _=>a2q) (fun _ _ _ _=>(a0y b1x hr a0r (@a0a _ _ _ _ _ (pv 0) a0c (by rfl))))) a0c (by rfl))))))))) (@a0f _ _ _ (@a0t _ _ _ _ c2n)) a0x)
   (@a0f _ _ _ (@a0t _ _ _ _ (pe_and (b2j op_in_seq (@a0u _ _ _ _ _ _ _ a0p (pv 0) a0h (fun _ _=>rfl)) (@a1m _ _ _ _ _ (@a0a _ _ _ _ _ a0h (@a0a _ _ _ _ _ a0h a0c (by rfl)) (by rfl))) rfl) (pe_and (pe_chain op_le op_lt a0h (@a0u _ _ _ _ _ _ _ a0p (pv 0) a0h (fun _ _=>rfl)) (a0k a3e a0h (pv 1))) (pe_one (pe_chain op_le op_lt a0h (@a0u _ _ _ _ _ _ _ a0p (pv 0) a0h (fun _ _=>rfl)) (a0k a3e a0h (pv 1))))))))),?_⟩
 fail"st";have ha':=SqT.of (K:=K) ha;unfold Row.V at ha';have ha2:=ha;unfold Row.V at ha2;fail"go";refine iteN (fun c=>(c rfl).elim) (fun _=>?_);fail"go";refine b3s (fun P h=>⟨_,rfl,h⟩) ha' (fun i ys H'=>H'=H/\ys=((r.V.take i).map wnB).map V.bl) (by show (3:Nat)<=1000;decide) ⟨rfl,rfl⟩ ?_ ?_ ?_ ?_
 ·rintro i ys H' ⟨rfl,rfl⟩;rw[A0b,A0b,A0q];omega
 ·rintro i ys H' ⟨rfl,rfl⟩;exact ha'
 ·rintro i x ys H' hx ⟨rfl,rfl⟩;fail"go";refine⟨x,wnB x,rfl,WN.flat K _ (okV_flat (all_get (d3s r) hx)),rfl,?_⟩;rw[a0s (xs:=r.V) hx,A0f,A0f];rfl
 ·rintro ys H' ⟨rfl,rfl⟩ p2 hp2;fail"go";refine c1y (bs:=(r.V.take 3).map wnB) (SqL.of a0d) ?_;rw[show ((r.V.take 3).map wnB).all id=true from rfl];have ha3:=(a0e hp2 (.lst (((r.V.take 3).map wnB).map V.bl))).tup ha';have om:=ok.m;have ox:=ok.x;have oz:=ok.z;fail"go";rename_i p3 hp3;refine b8w (fun _=>?_) (fun c=>(c (by omega)).elim);fail"go";refine b8w (fun _=>?_) (fun c=>(c (by omega)).elim);fail"go";refine b8w (fun _=>?_) (fun c=>(c (by omega)).elim);fail"go";rw[decide_eq_true (by omega)];exact q _ ((a0e hp2 _).trans (a0e hp3 _))
include a9z a5v a1a a5r a3g a3h a3v a7t in theorem c9p (F:Fun K "_law_parting" "_law_parting" a6c f fd):a2n P w K mg base CX0 4 f fd ["_law_rows","_law_found","_law_n","_law_many"] (b5t K):=by
 refine F.ok a5f (by fail"ln") ?_;fail"fi";obtain⟨l,t,n,many,as,rs,rfl,hl,hW,hok,h9,hn,hm,hP,q⟩:=h
 rcases hP with ⟨z,_⟩|⟨t',a,b,c,f1,w1,y,et,ht,ha,hb,hc,hf,hw,hs,hH,hy0,hyok,hyc,hys⟩
 ·cases z
 cases et;obtain⟨f0,fok⟩:=c6z hm hf;obtain⟨w0,wok'⟩:=c6z hm hw;have wf:=(c8v n many).2 _ hf;have ww:=(c8v n many).2 _ hw
 have three:∀x∈[V.ref a,.ref b,.ref c],∃p r,x=.ref p/\H p=some (.tup (Row.V r))/\r.Ok n:=fun x hx=>by
  simp only[A1n,A4j,or_false] at hx
  rcases hx with rfl|rfl|rfl
  ·exact⟨a,f1,rfl,ha,fok⟩
  ·exact⟨b,w1,rfl,hb,wok'⟩
  ·exact⟨c,y,rfl,hc,hyok⟩
 refine⟨_,(@a0b _ _ _ _ _ (@a2c _ _ _ _ _ _ _ _ (PW.pt (b1h (a4g (a3t (b6w rfl a1a (pv 1) a5r b3m))) (b1h (@a0v _ _ _ _ _ _ _ _ c5k (a1x a4s rfl a5v A3k (@a0a _ _ _ _ _ (pv 1) a0c (by rfl))) a0h (a1d _)) (b0y (a4g (a3t (a1x (a7p rfl) rfl a9z a9w (@a0a _ _ _ _ _ (pe_compS (sc:=a0g a6c) ["_law_rows","_law_found","_law_n","_law_many","_law_one","_law_other","?6"] ["_law_rows","_law_found","_law_n","_law_many","_law_one","_law_other","_law_row_here"] rfl rfl (by fail"k5") (by show ("_law_row_here":Str)∉(["_law_rows","_law_found","_law_n","_law_many","_law_one","_law_other","?6"]:List Str);decide +kernel) (by show (".0":Str)∉(["_law_rows","_law_found","_law_n","_law_many","_law_one","_law_other","?6"]:List Str);decide +kernel) (by decide +kernel) rfl (by decide +kernel) rfl (pi_tup (pv 1)) (fun _ _ _ _=>a2q) (fun _ _ _ _=>(a0y a7t hr a0r (@a0a _ _ _ _ _ (pv 0) (@a0a _ _ _ _ _ (pv 3) a0c (by rfl)) (by rfl))))) a0c (by rfl))))))))) (@a0f _ _ _ (@a0t _ _ _ _ c2n)) a0x)
   (@a0b _ _ _ _ _ (ps_asg (pv 1) (b8n rfl (a2b (a1g (i:=4) a5f.nd rfl (Or.inl rfl)) (a2b (a1g (i:=5) a5f.nd rfl (Or.inl rfl)) (a2b (a1g (i:=6) a5f.nd rfl (Or.inr rfl)) b2m)))))
   (@a0b _ _ _ _ _ (@a2c _ _ _ _ _ _ _ _ (PW.pt (b1h (@a0v _ _ _ _ _ _ _ _ op_gt (a0y a3h hr a0r (@a0a _ _ _ _ _ (pv 4) a0c (by rfl))) (pv 3) (a1d _)) (b1h (@a0v _ _ _ _ _ _ _ _ op_gt (a0y a3h hr a0r (@a0a _ _ _ _ _ (pv 5) a0c (by rfl))) (pv 3) (a1d _)) (b1h (@a0v _ _ _ _ _ _ _ _ c5k (@a0u _ _ _ _ _ _ _ a0p (pv 4) a0h (fun _ _=>rfl)) a0h (a1d _)) (b0y (@a0v _ _ _ _ _ _ _ _ c5k (@a0u _ _ _ _ _ _ _ a0p (pv 5) a0h (fun _ _=>rfl)) a0h (a1d _))))))) (@a0f _ _ _ (@a0t _ _ _ _ c2n)) a0x)
   (@a0b _ _ _ _ _ (@a2c _ _ _ _ _ _ _ _ (PW.pt (b1h (@a0v _ _ _ _ _ _ _ _ (op_neD (b9q hr)) (a0y a3v hr a0r (@a0a _ _ _ _ _ (pv 0) (@a0a _ _ _ _ _ (pv 4) a0c (by rfl)) (by rfl))) (a0y a3v hr a0r (@a0a _ _ _ _ _ (pv 0) (@a0a _ _ _ _ _ (pv 5) a0c (by rfl)) (by rfl))) (a1d _)) (b0y (a4g (a3t (a1x (a7p rfl) rfl a9z a9w (@a0a _ _ _ _ _ (a3d (sc:=a0g a6c) rfl (by fail"k5") (by show ("_law_mine":Str)∉(["_law_rows","_law_found","_law_n","_law_many","_law_one","_law_other","_law_row_here"]:List Str);decide +kernel) (by show (".0":Str)∉(["_law_rows","_law_found","_law_n","_law_many","_law_one","_law_other","_law_row_here"]:List Str);decide +kernel) a5f.nd rfl (a1q (pv 0)) (fun _ _ _ _=>a2q) (fun _ _ _ _=>(a0y a3g hr a0r (@a0a _ _ _ _ _ (pv 7) (@a0a _ _ _ _ _ (pv 0) a0c (by rfl)) (by rfl))))) a0c (by rfl)))))))) (@a0f _ _ _ (@a0t _ _ _ _ c2n)) a0x)
   (@a0f _ _ _ (@a0t _ _ _ _ (b2j c5k (a0y a3g hr a0r (@a0a _ _ _ _ _ (pv 6) (@a0a _ _ _ _ _ (pv 4) a0c (by rfl)) (by rfl))) (a0y a3g hr a0r (@a0a _ _ _ _ _ (pv 6) (@a0a _ _ _ _ _ (pv 5) a0c (by rfl)) (by rfl))) (a1d _)))))))),?_⟩
 fail"st";have ht':=SqT.of (K:=K) ht;fail"go";refine iteN (fun c=>(c rfl).elim) (fun _=>?_);fail"go";refine b3s (fun P h=>⟨_,rfl,h⟩) ht' (fun i ys H'=>a1n H H'/\ys=(A1u i true).map V.bl) (show (3:Nat)<=1000 by decide) ⟨a1n.refl _,rfl⟩ ?_ ?_ ?_ ?_
 ·rintro i ys H' ⟨_,rfl⟩;rw[A0b,A4e];exact A0k _
 ·rintro i ys H' ⟨s,_⟩;exact s.tup ht'
 ·rintro i x ys H' hx ⟨s,rfl⟩;obtain⟨p,r,rfl,hp,ok⟩:=three x (List.mem_of_getElem? hx);fail"go";refine⟨p,n,r,rfl,s _ _ hp,ok,by omega,fun H2 s2=>⟨s.trans s2,?_⟩⟩;rw[A5b,A0f];rfl
 ·rintro ys H1 ⟨s1,rfl⟩ p1 hp1;fail"go";refine c1y (SqL.of a0d) ?_;rw[c8m];have S1:=s1.trans (a0e hp1 (.lst ((A1u [V.ref a,.ref b,.ref c].length true).map V.bl)));generalize upd H1 p1 (.lst ((A1u [V.ref a,.ref b,.ref c].length true).map V.bl))=G1 at S1 ⊢;have ht1:=S1.tup ht';have qa:=SqT.of (K:=K) (S1 _ _ ha);have qb:=SqT.of (K:=K) (S1 _ _ hb);have qa':=qa;have qb':=qb;unfold Row.V at qa' qb';fail"go";refine⟨a,f1,rfl,qa,?_⟩;fail"go";refine b8w (fun z=>absurd z (by omega)) (fun _=>?_);fail"go";refine⟨b,w1,rfl,qb,?_⟩;fail"go";refine b8w (fun z=>absurd z (by omega)) (fun _=>?_);fail"go";refine iteN (fun z=>(z (by omega)).elim) (fun _=>?_);fail"go";refine iteN (fun z=>(z (by omega)).elim) (fun _=>?_);fail"go";refine⟨l,a,as,rs,f1,rfl,S1.seq hl,hW.mono fun a d x=>Rt.same S1 x,by rw[hW.len];omega,S1 _ _ ha,fun p2 hp2=>?_⟩;have n2:=a0e hp2 (.lst (vn (sig rs f1)));have g2:SqL K (upd G1 p2 (.lst (vn (sig rs f1)))) p2 (vn (sig rs f1)):=SqL.of a0d;have S2:=S1.trans n2;generalize upd G1 p2 (.lst (vn (sig rs f1)))=G2 at n2 g2 S2 ⊢;fail"go";refine⟨l,b,as,rs,w1,rfl,S2.seq hl,hW.mono fun a d x=>Rt.same S2 x,by rw[hW.len];omega,S2 _ _ hb,fun p3 hp3=>?_⟩;have n3:=a0e hp3 (.lst (vn (sig rs w1)));have g3:SqL K (upd G2 p3 (.lst (vn (sig rs w1)))) p3 (vn (sig rs w1)):=SqL.of a0d;have g23:=n3.seq g2;have S3:=S2.trans n3;generalize upd G2 p3 (.lst (vn (sig rs w1)))=G3 at g3 g23 S3 ⊢;rw[vnI] at g3 g23;rw[hs] at g23;fail"go";refine d4h g23 g3 ?_;rw[decide_eq_true rfl];fail"go";have W3:a2a (Rt K G3) as rs:=hW.mono fun a d x=>Rt.same S3 x;refine a1z (fun P h=>⟨_,rfl,h⟩) (S3.seq hl) (fun i ys H'=>H'=G3/\ys=(A1u i true).map V.bl) (by rw[a0m,hW.len];omega) ⟨rfl,rfl⟩ ?_ ?_ ?_ ?_
  ·rintro i ys H' ⟨_,rfl⟩;rw[A0b,A4e];exact A0k _
  ·rintro i ys H' ⟨rfl,_⟩;exact S3.seq hl
  ·rintro i x ys H' hx ⟨rfl,rfl⟩;obtain⟨b',hb',rfl⟩:=a1r hx;obtain⟨r,hr',hrb⟩:=W3.get hb';fail"go";refine⟨c,b',y,r,rfl,SqT.of (S3 _ _ hc),SqT.of hrb,rfl,?_⟩;rw[b6e,hyc r (List.mem_of_getElem? hr'),A5b,A0f];rfl
  ·rintro ys H' ⟨rfl,rfl⟩ p4 hp4;fail"go";refine c1y (SqL.of a0d) ?_;rw[c8m];have S4:=S3.trans (a0e hp4 (.lst ((A1u (a1c as).length true).map V.bl)));generalize upd H' p4 (.lst ((A1u (a1c as).length true).map V.bl))=G4 at S4 ⊢;fail"go";refine⟨c,a,y,f1,rfl,SqT.of (S4 _ _ hc),SqT.of (S4 _ _ ha),?_⟩;fail"go";refine⟨c,b,y,w1,rfl,SqT.of (S4 _ _ hc),SqT.of (S4 _ _ hb),?_⟩;fail"go"
   have e:(!decide ((!a2v y f1)=(!a2v y w1)))=true:=by
    rw[c6a (r:=f1) (s:=w1) ⟨rfl,rfl⟩,b6e f1,b6e w1] at hys;cases h1:a2v y f1<;>cases h2:a2v y w1<;>rw[h1,h2] at hys<;>first|rfl|cases hys
   rw[e];exact q _ S4
include a2k in theorem d3y (F:Fun K "_law_wrong" "_law_wrong" b6j f fd):a2n P w K mg base CX0 2 f fd ["_law_cell","_law_n","_law_many"] (c1x K):=by
 refine F.ok a4p (by fail"ln") ?_;fail"fi";obtain⟨c,n,many,rfl,hn0,hn9,hm,q⟩:=h
 refine⟨_,(@a0b _ _ _ _ _ (@a0q _ _ 3 _ _ _ _ a4p.nd rfl (Or.inl rfl) a0h (by rfl) (by first|exact .inl rfl|exact .inr rfl|assumption))
   (@a0b _ _ _ _ _ (@a0q _ _ 4 _ _ _ _ a4p.nd rfl (Or.inl rfl) a0h (by rfl) (by first|exact .inl rfl|exact .inr rfl|assumption))
   (@a0b _ _ _ _ _ (a4e A1d rfl (a1q (a0y a2k hr a0r (@a0a _ _ _ _ _ (pv 0) (@a0a _ _ _ _ _ (pv 2) a0c (by rfl)) (by rfl)))) (a1g (i:=5) a4p.nd rfl (Or.inl rfl)) (@a0b _ _ _ _ _ (@a0q _ _ 6 _ _ _ _ a4p.nd rfl (Or.inl rfl) (a0k a6d (pv 5) (pv 1)) (by rfl) (by first|exact .inl rfl|exact .inr rfl|assumption))
   (@a0b _ _ _ _ _ (@a0q _ _ 3 _ _ _ _ a4p.nd rfl (Or.inl rfl) (a0k c3e (a0k a3f (pv 3) (a0k b3n (a0k b3n a0h a0h) (a0k a3e a0h (pv 6)))) (a0k a3e (a0k a3f (a0k a8b (pv 5) a0h) a0h) (pv 6))) (by rfl) (by first|exact .inl rfl|exact .inr rfl|assumption))
   (@a0f _ _ _ (@a0q _ _ 4 _ _ _ _ a4p.nd rfl (Or.inl rfl) (a0k c3e (a0k a3f (pv 4) (a0k b3n (a0k b3n a0h a0h) (a0k a3e a0h (pv 6)))) (a0k a3e (a0k a3f (a0k a8b (pv 5) a0h) a0h) (pv 6))) (by rfl) (by first|exact .inl rfl|exact .inr rfl|assumption))))))
   (@a0f _ _ _ (@a0t _ _ _ _ (@a1m _ _ _ _ _ (@a0a _ _ _ _ _ a0h (@a0a _ _ _ _ _ (pv 3) (@a0a _ _ _ _ _ (pv 4) a0c (by rfl)) (by rfl)) (by rfl)))))))),?_⟩
 fail"st";fail"go";refine b2q ?_;fail"go";refine⟨c,many,rfl,by omega,fun pl H1 ns s1 f1 ln _=>?_⟩;refine b1s (SqL.of f1) (fun i σ H'=>∃(u v:Option V) (w:Row),σ=[some (.int c),some (.int n),some (.int many),some (.int (w.x:Int)),some (.int (w.z:Int)),u,v]/\H'=H1/\w∈Wup n i) ⟨_,_,⟨0,0,0⟩,rfl,rfl,A0h.2 rfl⟩ ?_ ?_ ?_
 ·rintro i σ H' _ ⟨_,_,_,_,rfl,_⟩;exact SqL.of f1
 ·rintro i y σ H' hy ⟨u,v,w,rfl,rfl,hw⟩;obtain⟨x,rfl⟩:=c8y hy;have hil:=(List.getElem?_eq_some_iff.1 hy).1;rw[A0b,ln] at hil;obtain⟨a1,ea1⟩:=and_oneB (x/64);obtain⟨a2,ea2⟩:=and_oneB (x/4096);have hcp:∀(b:Bool) (k:Nat),k<n->CPow ((b.toNat:Nat):Int) (k:Int):=fun b k hk=>⟨by omega,by omega,by cases b<;>decide⟩
  have hc2:∀(b:Bool) (k:Nat),((b.toNat:Nat):Int)*2^((k:Int)).toNat=((b.toNat*2^k:Nat):Int):=fun b k=>by rw[A3t];push_cast;rfl
  fail"go";rename_i k ek hk;rw[ea1,clr_and];refine st_i (hcp _ _ hk) ?_;rw[hc2];fail"go";rw[ea2,clr_and];refine st_i (hcp _ _ hk) ?_;rw[hc2];fail"go";exact⟨_,_,⟨0,clr w.x k|||a1.toNat*2^k,clr w.z k|||a2.toNat*2^k⟩,rfl,rfl,wset hn0 (by omega) hk a1 a2 hw⟩
 ·rintro σ H' ⟨u,v,w,rfl,rfl,hw⟩;rw[A0b,ln] at hw;obtain⟨e0,ok⟩:=c6z hm hw;fail"go";rename_i p hp;refine q p _ w (s1.trans (a0e hp _)) ?_ hw;rw[a0d];unfold Row.V;rw[e0];rfl
include a1k T_M in theorem b9b (F:Fun K "__init__" "Machine.__init__" a7j f fd):a2n P w K mg base CX0 2 f fd ["self","n","most"] (a6m K b7v):=by
 refine F.ok b9r (by fail"ln") ?_;fail"fi";obtain⟨p,n,m,k,rfl,h1,hm,dx,hp,q⟩:=h
 refine⟨_,(@a0b _ _ _ _ _ (@a2c _ _ _ _ _ _ _ _ (PW.pt (b1h (a4g (a3t (a0y a1k hr a0r (@a0a _ _ _ _ _ (pv 1) a0c (by rfl))))) (b1h (@a0v _ _ _ _ _ _ _ _ op_lt (pv 1) a0h (a1d _)) (b0y (@a0v _ _ _ _ _ _ _ _ op_gt (pv 1) (pv 2) (a1d _)))))) (@a0f _ _ _ a2h) a0x)
   (@a0f _ _ _ (b5j (pv 0) (pv 1) rfl))),?_⟩
 fail"st";fail"go";refine⟨_,true,rfl,WN.int K H _,?_⟩;fail"go";refine b8w (fun c=>absurd c (by omega)) (fun _=>?_);fail"go";refine b8w (fun c=>absurd c (by omega)) (fun _=>?_);fail"go";exact a9q hp (T_M.cl k) (T_M.n_n k) (by decide) q
include a3q T_M a4k b1w in theorem c2r (F:Fun K "__init__" "Signs.__init__" a6f f fd):a2n P w K mg base CX0 3 f fd ["self","n"] (a7u K b7v):=by
 refine F.ok b3e (by fail"ln") ?_;fail"fi";obtain⟨p,n,rfl,h1,hm,dx,hp,q⟩:=h
 refine⟨_,(@a0b _ _ _ _ _ (a1w (pe_cm a4k hr a0r (@a0a _ _ _ _ _ (pv 0) (@a0a _ _ _ _ _ (pv 1) (@a0a _ _ _ _ _ (a1p b1w) a0c (by rfl)) (by rfl)) (by rfl))))
   (@a0f _ _ _ (b5j (pv 0) (a3d (sc:=a0g a6f) rfl (by fail"k5") (by show ("k":Str)∉(["self","n"]:List Str);decide +kernel) (by show (".0":Str)∉(["self","n"]:List Str);decide +kernel) b3e.nd rfl (b1a rfl a3q (@a0a _ _ _ _ _ (pv 1) a0c (by rfl))) (fun _ _ _ _=>a2q) (fun _ _ _ _=>(@a1m _ _ _ _ _ (@a0a _ _ _ _ _ a0h (@a0a _ _ _ _ _ a0h (@a0a _ _ _ _ _ (a0k a3e a0h (pv 0)) a0c (by rfl)) (by rfl)) (by rfl))))) rfl))),?_⟩
 fail"st";fail"go";refine⟨p,n,40,.sg,rfl,h1,by omega,dx,hp,?_⟩;have g0:(upd H p (.ins (b7v .sg) dx [("n",.int (n:Int))])) p=some (.ins (b7v .sg) dx [("n",.int (n:Int))]):=a0d;have gB:But p H (upd H p (.ins (b7v .sg) dx [("n",.int (n:Int))])):=But.upd;generalize upd H p (.ins (b7v .sg) dx [("n",.int (n:Int))])=G at g0 gB ⊢;fail"go";refine b4j (n:=n) (by omega) (fun P h=>⟨_,rfl,h⟩) (fun i ys H'=>a1n G H'/\∃as,ys=a1c as/\a2a (Rt K H') as ((A3a i).map fun k=>im [] (2^k))) ⟨a1n.refl _,[],rfl,.nil⟩ ?_ ?_ ?_
 ·rintro i ys H' ⟨_,as,rfl,h2⟩;have:=h2.len;rw[A0b,A3w] at this;rw[a0m];omega
 ·rintro i ys H' hi ⟨h1,as,rfl,h2⟩;refine st_yes ?_;fail"go";rename_i p2 hp2;refine⟨h1.trans (a0e hp2 _),as++[p2],a2f _ _,?_⟩;rw[A7h,A0f];exact(h2.mono fun a d x=>Rt.same (a0e hp2 _) x).snoc a0d
 ·rintro ys H' ⟨h1,as,rfl,h2⟩ p1 hp1;have k1:=a0e hp1 (.lst (a1c as)) _ _ (h1 _ _ g0);fail"go";refine a9q k1 (T_M.cl .sg) (T_M.n_kept .sg) (by simp) ?_;have hB:But p (upd H' p1 (.lst (a1c as))) (upd (upd H' p1 (.lst (a1c as))) p (.ins (b7v .sg) dx [("n",.int (n:Int)),("kept",.ref p1)])):=But.upd;have hpp:p1≠p:=fun z=>by rw[z,h1 _ _ g0] at hp1;cases hp1
  refine q _ (fun c o hc e=>hB _ _ hc (a0e hp1 _ _ _ (h1 _ _ (gB _ _ hc e)))) ⟨dx,p1,as,a0d,hB _ _ hpp a0d,?_⟩;exact h2.mono fun a d x=>hB _ _ (a8x (a0e hp1 _ _ _ x) k1 (by intro z;cases z)) (a0e hp1 _ _ _ x)
include T_C a5x a3w in theorem d4r (F:Fun K "guess" "Code.guess" b7f f fd):a2n P w K mg base CX0 4 f fd ["self","signs","many"] (c0n K a9v b5m):=by
 refine F.ok c1d (by fail"ln") ?_;fail"fi";obtain⟨p,l,many,n,rs,sg,u0,rfl,hC,hl,hm,hn,hz,hf,q1⟩:=h
 refine⟨_,(@a0b _ _ _ _ _ (a4e A1d rfl (a1q (a0y a3w hr a0r (@a0a _ _ _ _ _ (pv 2) (@a0a _ _ _ _ _ (a3b (pv 0) rfl) a0c (by rfl)) (by rfl)))) (a1g (i:=3) c1d.nd rfl (Or.inl rfl)) (@a0f _ _ _ (@a2c _ _ _ _ _ _ _ _ (@a0v _ _ _ _ _ _ _ _ (op_eqD (b9q hr)) (b3p a5x hr a0r (pv 0) (@a0a _ _ _ _ _ (pv 3) a0c (by rfl))) (pv 1) (a1d _)) (@a0f _ _ _ (@a0t _ _ _ _ (pv 3))) a0x)))
   (@a0f _ _ _ a2h)),?_⟩
 fail"st";obtain⟨dx,lc,sp,ls,as,ss,hp,hlc,hW,hS⟩:=id hC;fail"go";refine b2q ?_;fail"go";refine a1y hp (T_C.cl _) (T_C.n_n _) (d2z _ _ _) ?_;fail"go";refine⟨many,n,rfl,hm,hn,fun pw H1 bs s1 f1 W1=>?_⟩;refine b1s (SqL.of f1) (fun i σ H'=>∃u:Option V,σ=[some (.ref p),some (.ref l),some (.int many),u]/\a1n H1 H'/\((Wup n many).take i).find? (hit rs sg)=none) ⟨_,rfl,a1n.refl _,rfl⟩ ?_ ?_ ?_
 ·rintro i σ H' _ ⟨_,rfl,s,_⟩;exact SqL.of (s _ _ f1)
 ·rintro i y σ H' hy ⟨u,rfl,s,hN⟩;obtain⟨b,hb,rfl⟩:=a1r hy;obtain⟨r,hr,hrb⟩:=W1.get hb;have S2:=s1.trans s;have C2:=hC.same S2;fail"go";refine a4r (S2 _ _ hp) (b4k _ _ _ (by decide +kernel) (by decide +kernel) (by decide +kernel)) ?_;fail"go";refine⟨p,b,n,rs,r,rfl,C2,Rt.same s hrb,hz,fun q3 hq3=>?_⟩;fail"go";have S3:=a0e hq3 (.lst (vn (rs.map fun r'=>(a2v r' r).toNat)));have f3:SqL K (upd H' q3 (.lst (vn (rs.map fun r'=>(a2v r' r).toNat)))) q3 (vn (sig rs r)):=SqL.of a0d;have l3:=(S2.trans S3).seq hl;generalize upd H' q3 (.lst (vn (rs.map fun r'=>(a2v r' r).toNat)))=G3 at S3 f3 l3 ⊢;rw[vnI] at f3 l3;refine rEqD_il f3 l3 ?_;rw[dec_ints]
  by_cases c:sig rs r=sg
  ·rw[decide_eq_true c];fail"go";have e:=find_at hr (decide_eq_true c) hN;rw[hf] at e;obtain rfl:=A0s e;exact q1 b _ (S2.trans S3) (Rt.same (s.trans S3) hrb)
  ·rw[decide_eq_false c];fail"go";refine⟨_,rfl,s.trans S3,?_⟩;rw[b3g hr,hN,if_neg (show ¬hit rs sg r=true from fun z=>c (of_decide_eq_true z))];rfl
 ·rintro σ H' ⟨u,rfl,s,hN⟩;rw[a0m,W1.len,A0t,hf] at hN;cases hN
theorem ok_bit_at (F:Fun K "bit_at" "bit_at" d4g f fd):a2n P w K mg base CX0 1 f fd ["number","k"] (sp_bit_at K):=by
 refine F.ok sc_bit_at (by fail"ln") ?_;fail"fi";obtain⟨n,k,rfl,q⟩:=h;refine⟨_,(@a0f _ _ _ (@a0t _ _ _ _ (a0k a3f (a0k d2r (pv 0) (pv 1)) a0h))),?_⟩;fail"go";exact q
include a4t a4q a1s T_D a1f in theorem d1e (F:Fun K "on_row" "Over.on_row" b4e f fd):a2n P w K mg base CX0 2 f fd ["self","row"] (d0b K a5s):=by
 refine F.ok d0x (by fail"ln") ?_;fail"fi";obtain⟨a,b,⟨k,w⟩,r,rfl,hk,⟨dx,t,ha,ht,hl⟩,hw,hb,q⟩:=h;dsimp only at hk ha ht hl hw;subst hk;obtain⟨i,rfl⟩:=a9s hl;have hi:i<=1000:=hw i (by simp);have ht':SqT K H t [.int (i:Nat)]:=SqT.of ht;refine⟨_,(@a0f _ _ _ (@a0t _ _ _ _ (@a1m _ _ _ _ _ (@a0a _ _ _ _ _ (a0k a1t (@a0u _ _ _ _ _ _ _ a0p (pv 1) (a1p a1s) (fun _ _=>rfl)) (a0y a1f hr a0r (@a0a _ _ _ _ _ (@a0u _ _ _ _ _ _ _ a0p (pv 1) (a1p a4q) (fun _ _=>rfl)) (@a0a _ _ _ _ _ (@a0u _ _ _ _ _ _ _ a0p (a3b (pv 0) rfl) a0h (fun _ _=>rfl)) a0c (by rfl)) (by rfl)))) (@a0a _ _ _ _ _ (@a0u _ _ _ _ _ _ _ a0p (pv 1) (a1p a4t) (fun _ _=>rfl)) (@a0a _ _ _ _ _ (@a0u _ _ _ _ _ _ _ a0p (pv 1) (a1p a4q) (fun _ _=>rfl)) a0c (by rfl)) (by rfl)) (by rfl))))),?_⟩;fail"st";unfold Row.V at hb;fail"go";refine a1y ha (T_D.cl _) (T_D.n_at _) (b0h _ _) ?_;fail"go";refine⟨r.z,i,rfl,?_⟩;fail"go";rename_i p hp;exact q p _ (a0e hp _) a0d
include a4t a4q a1s T_D a1f in theorem c3k (F:Fun K "on_row" "Quarter.on_row" a9j f fd):a2n P w K mg base CX0 2 f fd ["self","row"] (c3d K a5s):=by
 refine F.ok a5m (by fail"ln") ?_;fail"fi";obtain⟨a,b,⟨k,w⟩,r,rfl,hk,⟨dx,t,ha,ht,hl⟩,hw,hb,q⟩:=h;dsimp only at hk ha ht hl hw;subst hk;obtain⟨i,rfl⟩:=a9s hl;have hi:i<=1000:=hw i (by simp);have ht':SqT K H t [.int (i:Nat)]:=SqT.of ht
 refine⟨_,(@a0b _ _ _ _ _ (@a0q _ _ 2 _ _ _ _ a5m.nd rfl (Or.inl rfl) (@a0u _ _ _ _ _ _ _ a0p (a3b (pv 0) rfl) a0h (fun _ _=>rfl)) (by rfl) (by first|exact .inl rfl|exact .inr rfl|assumption))
   (@a0b _ _ _ _ _ (@a0q _ _ 3 _ _ _ _ a5m.nd rfl (Or.inl rfl) (a0y a1f hr a0r (@a0a _ _ _ _ _ (@a0u _ _ _ _ _ _ _ a0p (pv 1) (a1p a4t) (fun _ _=>rfl)) (@a0a _ _ _ _ _ (pv 2) a0c (by rfl)) (by rfl))) (by rfl) (by first|exact .inl rfl|exact .inr rfl|assumption))
   (@a0b _ _ _ _ _ (@a0q _ _ 4 _ _ _ _ a5m.nd rfl (Or.inl rfl) (a0y a1f hr a0r (@a0a _ _ _ _ _ (@a0u _ _ _ _ _ _ _ a0p (pv 1) (a1p a4q) (fun _ _=>rfl)) (@a0a _ _ _ _ _ (pv 2) a0c (by rfl)) (by rfl))) (by rfl) (by first|exact .inl rfl|exact .inr rfl|assumption))
   (@a0f _ _ _ (@a0t _ _ _ _ (@a1m _ _ _ _ _ (@a0a _ _ _ _ _ (a0k a1t (@a0u _ _ _ _ _ _ _ a0p (pv 1) (a1p a1s) (fun _ _=>rfl)) (a0k a3f (pv 3) (pv 4))) (@a0a _ _ _ _ _ (@a0u _ _ _ _ _ _ _ a0p (pv 1) (a1p a4t) (fun _ _=>rfl)) (@a0a _ _ _ _ _ (a0k a1t (@a0u _ _ _ _ _ _ _ a0p (pv 1) (a1p a4q) (fun _ _=>rfl)) (a0k a3e (pv 3) (pv 2))) a0c (by rfl)) (by rfl)) (by rfl)))))))),?_⟩
 fail"st";unfold Row.V at hb;fail"go";refine a1y ha (T_D.cl _) (T_D.n_at _) (b0h _ _) ?_;fail"go";refine⟨r.x,i,rfl,?_⟩;fail"go";refine⟨r.z,i,rfl,?_⟩;fail"go";rename_i p hp;exact q p _ (a0e hp _) a0d
include a4t a4q a1s T_D a1f in theorem d1d (F:Fun K "on_row" "Back.on_row" b4d f fd):a2n P w K mg base CX0 2 f fd ["self","row"] (d0j K a5s):=by
 refine F.ok a8m (by fail"ln") ?_;fail"fi";obtain⟨a,b,⟨k,w⟩,r,rfl,hk,⟨dx,t,ha,ht,hl⟩,hw,hb,q⟩:=h;dsimp only at hk ha ht hl hw;subst hk;obtain⟨i,rfl⟩:=a9s hl;have hi:i<=1000:=hw i (by simp);have ht':SqT K H t [.int (i:Nat)]:=SqT.of ht
 refine⟨_,(@a0b _ _ _ _ _ (@a0q _ _ 2 _ _ _ _ a8m.nd rfl (Or.inl rfl) (@a0u _ _ _ _ _ _ _ a0p (a3b (pv 0) rfl) a0h (fun _ _=>rfl)) (by rfl) (by first|exact .inl rfl|exact .inr rfl|assumption))
   (@a0b _ _ _ _ _ (@a0q _ _ 3 _ _ _ _ a8m.nd rfl (Or.inl rfl) (a0y a1f hr a0r (@a0a _ _ _ _ _ (@a0u _ _ _ _ _ _ _ a0p (pv 1) (a1p a4t) (fun _ _=>rfl)) (@a0a _ _ _ _ _ (pv 2) a0c (by rfl)) (by rfl))) (by rfl) (by first|exact .inl rfl|exact .inr rfl|assumption))
   (@a0b _ _ _ _ _ (@a0q _ _ 4 _ _ _ _ a8m.nd rfl (Or.inl rfl) (a0y a1f hr a0r (@a0a _ _ _ _ _ (@a0u _ _ _ _ _ _ _ a0p (pv 1) (a1p a4q) (fun _ _=>rfl)) (@a0a _ _ _ _ _ (pv 2) a0c (by rfl)) (by rfl))) (by rfl) (by first|exact .inl rfl|exact .inr rfl|assumption))
   (@a0f _ _ _ (@a0t _ _ _ _ (@a1m _ _ _ _ _ (@a0a _ _ _ _ _ (a0k a1t (@a0u _ _ _ _ _ _ _ a0p (pv 1) (a1p a1s) (fun _ _=>rfl)) (a0k a3f (pv 3) (a0k b3n a0h (pv 4)))) (@a0a _ _ _ _ _ (@a0u _ _ _ _ _ _ _ a0p (pv 1) (a1p a4t) (fun _ _=>rfl)) (@a0a _ _ _ _ _ (a0k a1t (@a0u _ _ _ _ _ _ _ a0p (pv 1) (a1p a4q) (fun _ _=>rfl)) (a0k a3e (pv 3) (pv 2))) a0c (by rfl)) (by rfl)) (by rfl)))))))),?_⟩
 fail"st";unfold Row.V at hb;fail"go";refine a1y ha (T_D.cl _) (T_D.n_at _) (b0h _ _) ?_;fail"go";refine⟨r.x,i,rfl,?_⟩;fail"go";refine⟨r.z,i,rfl,?_⟩;fail"go";rename_i p hp;exact q p _ (a0e hp _) a0d
include a4t a4q a1s T_D a1f in theorem d0h (F:Fun K "on_row" "Both.on_row" b4b f fd):a2n P w K mg base CX0 2 f fd ["self","row"] (d0c K a5s):=by
 refine F.ok a5y (by fail"ln") ?_;fail"fi";obtain⟨a,b,⟨k,w⟩,r,rfl,hk,⟨dx,t,ha,ht,hl⟩,hw,hb,q⟩:=h;dsimp only at hk ha ht hl hw;subst hk;obtain⟨i,rfl⟩:=a9s hl;have hi:i<=1000:=hw i (by simp);have ht':SqT K H t [.int (i:Nat)]:=SqT.of ht
 refine⟨_,(@a0b _ _ _ _ _ (@a0q _ _ 2 _ _ _ _ a5y.nd rfl (Or.inl rfl) (@a0u _ _ _ _ _ _ _ a0p (a3b (pv 0) rfl) a0h (fun _ _=>rfl)) (by rfl) (by first|exact .inl rfl|exact .inr rfl|assumption))
   (@a0b _ _ _ _ _ (@a0q _ _ 3 _ _ _ _ a5y.nd rfl (Or.inl rfl) (a0y a1f hr a0r (@a0a _ _ _ _ _ (@a0u _ _ _ _ _ _ _ a0p (pv 1) (a1p a4t) (fun _ _=>rfl)) (@a0a _ _ _ _ _ (pv 2) a0c (by rfl)) (by rfl))) (by rfl) (by first|exact .inl rfl|exact .inr rfl|assumption))
   (@a0b _ _ _ _ _ (@a0q _ _ 4 _ _ _ _ a5y.nd rfl (Or.inl rfl) (a0y a1f hr a0r (@a0a _ _ _ _ _ (@a0u _ _ _ _ _ _ _ a0p (pv 1) (a1p a4q) (fun _ _=>rfl)) (@a0a _ _ _ _ _ (pv 2) a0c (by rfl)) (by rfl))) (by rfl) (by first|exact .inl rfl|exact .inr rfl|assumption))
   (@a0b _ _ _ _ _ (@a0q _ _ 5 _ _ _ _ a5y.nd rfl (Or.inl rfl) (a0k a3e (a0k a1t (pv 3) (pv 4)) (pv 2)) (by rfl) (by first|exact .inl rfl|exact .inr rfl|assumption))
   (@a0f _ _ _ (@a0t _ _ _ _ (@a1m _ _ _ _ _ (@a0a _ _ _ _ _ (a0k a1t (@a0u _ _ _ _ _ _ _ a0p (pv 1) (a1p a1s) (fun _ _=>rfl)) (a0k a3f (pv 3) (pv 4))) (@a0a _ _ _ _ _ (a0k a1t (@a0u _ _ _ _ _ _ _ a0p (pv 1) (a1p a4t) (fun _ _=>rfl)) (pv 5)) (@a0a _ _ _ _ _ (a0k a1t (@a0u _ _ _ _ _ _ _ a0p (pv 1) (a1p a4q) (fun _ _=>rfl)) (pv 5)) a0c (by rfl)) (by rfl)) (by rfl))))))))),?_⟩
 fail"st";unfold Row.V at hb;fail"go";refine a1y ha (T_D.cl _) (T_D.n_at _) (b0h _ _) ?_;fail"go";refine⟨r.x,i,rfl,?_⟩;fail"go";refine⟨r.z,i,rfl,?_⟩;fail"go";rename_i p hp;exact q p _ (a0e hp _) a0d
include a4t a4q a1s T_D a1f in theorem c6s (F:Fun K "on_row" "Where.on_row" b2r f fd):a2n P w K mg base CX0 2 f fd ["self","row"] (c7q K a5s):=by
 refine F.ok a4b (by fail"ln") ?_;fail"fi";obtain⟨a,b,⟨k,w⟩,r,rfl,hk,⟨dx,t,ha,ht,hl⟩,hw,hb,q⟩:=h;dsimp only at hk ha ht hl hw;subst hk;obtain⟨i,j,rfl⟩:=b6y hl;have hi:i<=1000:=hw i (by simp);have hj:j<=1000:=hw j (by simp);have ht':SqT K H t [.int (i:Nat),.int (j:Nat)]:=SqT.of ht
 refine⟨_,(@a0b _ _ _ _ _ (@a0q _ _ 2 _ _ _ _ a4b.nd rfl (Or.inl rfl) (@a0u _ _ _ _ _ _ _ a0p (a3b (pv 0) rfl) a0h (fun _ _=>rfl)) (by rfl) (by first|exact .inl rfl|exact .inr rfl|assumption))
   (@a0b _ _ _ _ _ (@a0q _ _ 3 _ _ _ _ a4b.nd rfl (Or.inl rfl) (@a0u _ _ _ _ _ _ _ a0p (a3b (pv 0) rfl) a0h (fun _ _=>rfl)) (by rfl) (by first|exact .inl rfl|exact .inr rfl|assumption))
   (@a0b _ _ _ _ _ (@a0q _ _ 4 _ _ _ _ a4b.nd rfl (Or.inl rfl) (a0y a1f hr a0r (@a0a _ _ _ _ _ (@a0u _ _ _ _ _ _ _ a0p (pv 1) (a1p a4t) (fun _ _=>rfl)) (@a0a _ _ _ _ _ (pv 2) a0c (by rfl)) (by rfl))) (by rfl) (by first|exact .inl rfl|exact .inr rfl|assumption))
   (@a0b _ _ _ _ _ (@a0q _ _ 5 _ _ _ _ a4b.nd rfl (Or.inl rfl) (a0y a1f hr a0r (@a0a _ _ _ _ _ (@a0u _ _ _ _ _ _ _ a0p (pv 1) (a1p a4q) (fun _ _=>rfl)) (@a0a _ _ _ _ _ (pv 3) a0c (by rfl)) (by rfl))) (by rfl) (by first|exact .inl rfl|exact .inr rfl|assumption))
   (@a0b _ _ _ _ _ (@a0q _ _ 6 _ _ _ _ a4b.nd rfl (Or.inl rfl) (a0k b3n a0h (a0k a1t (a0y a1f hr a0r (@a0a _ _ _ _ _ (@a0u _ _ _ _ _ _ _ a0p (pv 1) (a1p a4q) (fun _ _=>rfl)) (@a0a _ _ _ _ _ (pv 2) a0c (by rfl)) (by rfl))) (a0y a1f hr a0r (@a0a _ _ _ _ _ (@a0u _ _ _ _ _ _ _ a0p (pv 1) (a1p a4t) (fun _ _=>rfl)) (@a0a _ _ _ _ _ (pv 3) a0c (by rfl)) (by rfl))))) (by rfl) (by first|exact .inl rfl|exact .inr rfl|assumption))
   (@a0f _ _ _ (@a0t _ _ _ _ (@a1m _ _ _ _ _ (@a0a _ _ _ _ _ (a0k a1t (@a0u _ _ _ _ _ _ _ a0p (pv 1) (a1p a1s) (fun _ _=>rfl)) (a0k a3f (a0k a3f (pv 4) (pv 5)) (pv 6))) (@a0a _ _ _ _ _ (a0k a1t (@a0u _ _ _ _ _ _ _ a0p (pv 1) (a1p a4t) (fun _ _=>rfl)) (a0k a3e (pv 4) (pv 3))) (@a0a _ _ _ _ _ (a0k a1t (@a0u _ _ _ _ _ _ _ a0p (pv 1) (a1p a4q) (fun _ _=>rfl)) (a0k a3e (pv 5) (pv 2))) a0c (by rfl)) (by rfl)) (by rfl)))))))))),?_⟩
 fail"st";unfold Row.V at hb;fail"go";refine a1y ha (T_D.cl _) (T_D.n_at _) (b0h _ _) ?_;fail"go";refine a1y ha (T_D.cl _) (T_D.n_at _) (b0h _ _) ?_;fail"go";refine⟨r.x,i,rfl,?_⟩;fail"go";refine⟨r.z,j,rfl,?_⟩;fail"go";refine⟨r.z,i,rfl,?_⟩;fail"go";refine⟨r.x,j,rfl,?_⟩;fail"go";rename_i p hp;exact q p _ (a0e hp _) a0d
include a1f in theorem ok_exchanged (F:Fun K "exchanged" "exchanged" b9c f fd):a2n P w K mg base CX0 2 f fd ["number","j","k"] (c4a K):=by
 refine F.ok c3w (by fail"ln") ?_;fail"fi";obtain⟨n,i,j,rfl,hi,hj,q⟩:=h
 refine⟨_,(@a0b _ _ _ _ _ (@a0q _ _ 3 _ _ _ _ c3w.nd rfl (Or.inl rfl) (a0k a1t (a0y a1f hr a0r (@a0a _ _ _ _ _ (pv 0) (@a0a _ _ _ _ _ (pv 1) a0c (by rfl)) (by rfl))) (a0y a1f hr a0r (@a0a _ _ _ _ _ (pv 0) (@a0a _ _ _ _ _ (pv 2) a0c (by rfl)) (by rfl)))) (by rfl) (by first|exact .inl rfl|exact .inr rfl|assumption))
   (@a0f _ _ _ (@a0t _ _ _ _ (a0k a1t (a0k a1t (pv 0) (a0k a3e (pv 3) (pv 1))) (a0k a3e (pv 3) (pv 2)))))),?_⟩
 fail"go";refine⟨n,i,rfl,?_⟩;fail"go";refine⟨n,j,rfl,?_⟩;fail"go";exact q
include a4t a4q a1s T_D b1e in theorem d0y (F:Fun K "on_row" "Swap.on_row" b4a f fd):a2n P w K mg base CX0 3 f fd ["self","row"] (d1r K a5s):=by
 refine F.ok b2n (by fail"ln") ?_;fail"fi";obtain⟨a,b,⟨k,w⟩,r,rfl,hk,⟨dx,t,ha,ht,hl⟩,hw,hb,q⟩:=h;dsimp only at hk ha ht hl hw;subst hk;obtain⟨i,j,rfl⟩:=b6y hl;have hi:i<=1000:=hw i (by simp);have hj:j<=1000:=hw j (by simp);have ht':SqT K H t [.int (i:Nat),.int (j:Nat)]:=SqT.of ht
 refine⟨_,(@a0b _ _ _ _ _ (@a0q _ _ 2 _ _ _ _ b2n.nd rfl (Or.inl rfl) (@a0u _ _ _ _ _ _ _ a0p (a3b (pv 0) rfl) a0h (fun _ _=>rfl)) (by rfl) (by first|exact .inl rfl|exact .inr rfl|assumption))
   (@a0b _ _ _ _ _ (@a0q _ _ 3 _ _ _ _ b2n.nd rfl (Or.inl rfl) (@a0u _ _ _ _ _ _ _ a0p (a3b (pv 0) rfl) a0h (fun _ _=>rfl)) (by rfl) (by first|exact .inl rfl|exact .inr rfl|assumption))
   (@a0f _ _ _ (@a0t _ _ _ _ (@a1m _ _ _ _ _ (@a0a _ _ _ _ _ (@a0u _ _ _ _ _ _ _ a0p (pv 1) (a1p a1s) (fun _ _=>rfl)) (@a0a _ _ _ _ _ (a0y b1e hr a0r (@a0a _ _ _ _ _ (@a0u _ _ _ _ _ _ _ a0p (pv 1) (a1p a4t) (fun _ _=>rfl)) (@a0a _ _ _ _ _ (pv 2) (@a0a _ _ _ _ _ (pv 3) a0c (by rfl)) (by rfl)) (by rfl))) (@a0a _ _ _ _ _ (a0y b1e hr a0r (@a0a _ _ _ _ _ (@a0u _ _ _ _ _ _ _ a0p (pv 1) (a1p a4q) (fun _ _=>rfl)) (@a0a _ _ _ _ _ (pv 2) (@a0a _ _ _ _ _ (pv 3) a0c (by rfl)) (by rfl)) (by rfl))) a0c (by rfl)) (by rfl)) (by rfl))))))),?_⟩
 fail"st";unfold Row.V at hb;fail"go";refine a1y ha (T_D.cl _) (T_D.n_at _) (b0h _ _) ?_;fail"go";refine a1y ha (T_D.cl _) (T_D.n_at _) (b0h _ _) ?_;fail"go";refine⟨r.x,i,j,rfl,hi,hj,?_⟩;fail"go";refine⟨r.z,i,j,rfl,hi,hj,?_⟩;fail"go";rename_i p hp;exact q p _ (a0e hp _) a0d
include T_M a7r in theorem c6u (F:Fun K "follow" "Signs.follow" a8f f fd):a2n P w K mg base CX0 4 f fd ["self","deed"] (b7g K a5s b7v):=by
 refine F.ok b5x (by fail"ln") ?_;fail"fi";obtain⟨x,y,n,d,rs,rfl,⟨dx,a,as,hx,ha,hR⟩,hl,hD,hw,q⟩:=h;refine⟨_,(@a0f _ _ _ (b5j (pv 0) (a3d (sc:=a0g a8f) rfl (by fail"k5") (by show ("row":Str)∉(["self","deed"]:List Str);decide +kernel) (by show (".0":Str)∉(["self","deed"]:List Str);decide +kernel) b5x.nd rfl (a1q (a3b (pv 0) rfl)) (fun _ _ _ _=>a2q) (fun _ _ _ _=>(b3p a7r hr a0r (pv 2) (@a0a _ _ _ _ _ (pv 0) a0c (by rfl))))) rfl)),?_⟩;obtain⟨dx1,tt,hd1,hd2,hd4⟩:=id hD;fail"st";fail"go";refine st_cqE ?_;fail"go";refine a1y hx (T_M.cl .sg) (T_M.n_kept .sg) rfl ?_;have hlx:=hR.len;refine st_cqAt (SqL.of ha) (fun i ys H'=>a1n H H'/\∃bs,ys=a1c bs/\a2a (Rt K H') bs ((rs.take i).map (act d))) (by rw[a0m];omega) ⟨a1n.refl _,[],rfl,.nil⟩ ?_ ?_ ?_ ?_
 ·rintro i ys H' ⟨_,bs,rfl,h2⟩;have:=h2.len;rw[A0b,A0q] at this;rw[a0m];omega
 ·rintro i ys H' ⟨h1,_⟩;exact SqL.of (h1 _ _ ha)
 ·rintro i x1 ys H' hget ⟨h1,bs,rfl,h2⟩;obtain⟨t,ht,rfl⟩:=a1r hget;obtain⟨r,e1,sq⟩:=hR.get ht;refine st_yes ?_;fail"go";refine a4r (h1 _ _ hd1) (c7u _ _ (by decide +kernel) (by decide +kernel) (by decide +kernel)) ?_;fail"go";refine⟨y,t,d,r,rfl,rfl,hD.same h1,hw,SqT.of (Rt.same h1 sq),fun p2 H2 hS2 hp2=>?_⟩;fail"go";refine⟨h1.trans hS2,bs++[p2],a2f _ _,?_⟩;rw[a0s e1,A0f];exact(h2.mono fun a d x=>Rt.same hS2 x).snoc hp2
 ·rintro ys H' ⟨h1,bs,rfl,h2⟩ p1 hp1;rw[a0m,hlx,A0t] at h2;have k1:=a0e hp1 (.lst (a1c bs)) _ _ (h1 _ _ hx);fail"go";refine a9q k1 (T_M.cl .sg) (T_M.n_kept .sg) (by simp) ?_;have hB:But x (upd H' p1 (.lst (a1c bs))) (upd (upd H' p1 (.lst (a1c bs))) x (.ins (b7v .sg) dx [("n",.int (n:Int)),("kept",.ref p1)])):=But.upd;have hpp:p1≠x:=fun z=>by rw[z,h1 _ _ hx] at hp1;cases hp1
  refine q _ (fun c o hc e=>hB _ _ hc (a0e hp1 _ _ _ (h1 _ _ e))) ⟨dx,p1,bs,a0d,hB _ _ hpp a0d,?_⟩;exact h2.mono fun a d x=>hB _ _ (a8x (a0e hp1 _ _ _ x) k1 (by intro z;cases z)) (a0e hp1 _ _ _ x)
include a4v T_D in theorem d4e (F:Fun K "wires" "Deed.wires" b5v f fd):a2n P w K mg base CX0 1 f fd ["self"] (c1t K a5s):=by
 refine F.ok d3t (by fail"ln") ?_;fail"fi";obtain⟨a,d,rfl,⟨dx,t,ha,ht,hl⟩,q⟩:=h;refine⟨_,(@a0f _ _ _ (@a0t _ _ _ _ (a9a b0d rfl a4v a8y (@a0a _ _ _ _ _ (a3b (pv 0) rfl) a0c (by rfl))))),?_⟩;have ht':SqT K H t (vn d.w):=SqT.of ht;fail"st";fail"go";refine a1y ha (T_D.cl _) (T_D.n_at _) (b0h _ _) ?_;fail"go";exact q _ (by assumption)
include T_D in theorem c4k (F:Fun K "__init__" "Deed.__init__" b0k f fd):a2n P w K mg base CX0 1 f fd ["self","word","undoer","at"] (a9m K a5s):=by
 refine F.ok c5s (by fail"ln") ?_;fail"fi";obtain⟨p,w,u,t,rfl,k,dx,hp,q⟩:=h
 refine⟨_,(@a0b _ _ _ _ _ (b5j (pv 0) (pv 1) rfl)
   (@a0b _ _ _ _ _ (b5j (pv 0) (pv 2) rfl)
   (@a0f _ _ _ (b5j (pv 0) (pv 3) rfl)))),?_⟩
 fail"st";fail"go";refine a9q hp (T_D.cl k) (T_D.n_word k) (by decide) ?_;fail"go";refine a9q a0d (T_D.cl k) (T_D.n_undoer k) (A2m (b1f _ _ _) (by decide)) ?_;fail"go";refine a9q a0d (T_D.cl k) (T_D.n_at k) (A2m (b1f _ _ _) (A2m (Nat.succ_le_succ (b1f _ _ _)) (by decide))) ?_;rw[upd_upd,upd_upd,flds_put];exact q
include a1b in theorem c4z (F:Fun K "__init__" "Swap.__init__" b0p f fd):a2n P w K mg base CX0 2 f fd ["self","j","k"] (a9h K a5s):=by
 refine F.ok c5r (by fail"ln") ?_;fail"fi";obtain⟨p,j,i,rfl,dx,hp,q⟩:=h;refine⟨_,(@a0f _ _ _ (a1w (pe_cm a1b hr a0r (@a0a _ _ _ _ _ (pv 0) (@a0a _ _ _ _ _ a1h (@a0a _ _ _ _ _ a1h (@a0a _ _ _ _ _ (@a1m _ _ _ _ _ (@a0a _ _ _ _ _ (pv 1) (@a0a _ _ _ _ _ (pv 2) a0c (by rfl)) (by rfl))) a0c (by rfl)) (by rfl)) (by rfl)) (by rfl))))),?_⟩;fail"go";rename_i t ht;refine⟨p,_,_,t,rfl,.swap,dx,?_,q t ht⟩;rw[a0w (a0j hp ht)];exact hp
include a1b in theorem c5q (F:Fun K "__init__" "Over.__init__" b0z f fd):a2n P w K mg base CX0 2 f fd ["self","k"] (a9e K a5s):=by
 refine F.ok c5g (by fail"ln") ?_;fail"fi";obtain⟨p,j,rfl,dx,hp,q⟩:=h;refine⟨_,(@a0f _ _ _ (a1w (pe_cm a1b hr a0r (@a0a _ _ _ _ _ (pv 0) (@a0a _ _ _ _ _ a1h (@a0a _ _ _ _ _ a1h (@a0a _ _ _ _ _ (@a1m _ _ _ _ _ (@a0a _ _ _ _ _ (pv 1) a0c (by rfl))) a0c (by rfl)) (by rfl)) (by rfl)) (by rfl))))),?_⟩;fail"go";rename_i t ht;refine⟨p,_,_,t,rfl,.over,dx,?_,q t ht⟩;rw[a0w (a0j hp ht)];exact hp
include a1b in theorem b9m (F:Fun K "__init__" "Quarter.__init__" a7g f fd):a2n P w K mg base CX0 2 f fd ["self","k"] (a6h K a5s):=by
 refine F.ok b9t (by fail"ln") ?_;fail"fi";obtain⟨p,j,rfl,dx,hp,q⟩:=h;refine⟨_,(@a0f _ _ _ (a1w (pe_cm a1b hr a0r (@a0a _ _ _ _ _ (pv 0) (@a0a _ _ _ _ _ a1h (@a0a _ _ _ _ _ a1h (@a0a _ _ _ _ _ (@a1m _ _ _ _ _ (@a0a _ _ _ _ _ (pv 1) a0c (by rfl))) a0c (by rfl)) (by rfl)) (by rfl)) (by rfl))))),?_⟩;fail"go";rename_i t ht;refine⟨p,_,_,t,rfl,.quarter,dx,?_,q t ht⟩;rw[a0w (a0j hp ht)];exact hp
include a1b in theorem c4w (F:Fun K "__init__" "Back.__init__" b0j f fd):a2n P w K mg base CX0 2 f fd ["self","k"] (a9k K a5s):=by
 refine F.ok c4y (by fail"ln") ?_;fail"fi";obtain⟨p,j,rfl,dx,hp,q⟩:=h;refine⟨_,(@a0f _ _ _ (a1w (pe_cm a1b hr a0r (@a0a _ _ _ _ _ (pv 0) (@a0a _ _ _ _ _ a1h (@a0a _ _ _ _ _ a1h (@a0a _ _ _ _ _ (@a1m _ _ _ _ _ (@a0a _ _ _ _ _ (pv 1) a0c (by rfl))) a0c (by rfl)) (by rfl)) (by rfl)) (by rfl))))),?_⟩;fail"go";rename_i t ht;refine⟨p,_,_,t,rfl,.back,dx,?_,q t ht⟩;rw[a0w (a0j hp ht)];exact hp
include a1b in theorem c4n (F:Fun K "__init__" "Both.__init__" b0s f fd):a2n P w K mg base CX0 2 f fd ["self","k"] (a9p K a5s):=by
 refine F.ok c5a (by fail"ln") ?_;fail"fi";obtain⟨p,j,rfl,dx,hp,q⟩:=h;refine⟨_,(@a0f _ _ _ (a1w (pe_cm a1b hr a0r (@a0a _ _ _ _ _ (pv 0) (@a0a _ _ _ _ _ a1h (@a0a _ _ _ _ _ a1h (@a0a _ _ _ _ _ (@a1m _ _ _ _ _ (@a0a _ _ _ _ _ (pv 1) a0c (by rfl))) a0c (by rfl)) (by rfl)) (by rfl)) (by rfl))))),?_⟩;fail"go";rename_i t ht;refine⟨p,_,_,t,rfl,.both,dx,?_,q t ht⟩;rw[a0w (a0j hp ht)];exact hp
include a1b in theorem c3g (F:Fun K "__init__" "Where.__init__" a9n f fd):a2n P w K mg base CX0 2 f fd ["self","j","k"] (a8a K a5s):=by
 refine F.ok c2q (by fail"ln") ?_;fail"fi";obtain⟨p,j,i,rfl,dx,hp,q⟩:=h;refine⟨_,(@a0f _ _ _ (a1w (pe_cm a1b hr a0r (@a0a _ _ _ _ _ (pv 0) (@a0a _ _ _ _ _ a1h (@a0a _ _ _ _ _ a1h (@a0a _ _ _ _ _ (@a1m _ _ _ _ _ (@a0a _ _ _ _ _ (pv 1) (@a0a _ _ _ _ _ (pv 2) a0c (by rfl)) (by rfl))) a0c (by rfl)) (by rfl)) (by rfl)) (by rfl))))),?_⟩;fail"go";rename_i t ht;refine⟨p,_,_,t,rfl,.wher,dx,?_,q t ht⟩;rw[a0w (a0j hp ht)];exact hp
include a9z a5v a1a a5r a1k a4z b_str in theorem d1j (F:Fun K "check_words" "check_words" a9y f fd):a2n P w K mg base CX0 2 f fd ["words"] (b6q K):=by
 refine F.ok b2w (by fail"ln") ?_;fail"fi";obtain⟨v,rfl,hq⟩:=h
 refine⟨_,(@a0b _ _ _ _ _ (@a2c _ _ _ _ _ _ _ _ (PW.pt (b1h (a4g (a3t (b6w rfl a1a (pv 0) a5r b3m))) (b0y (@a0v _ _ _ _ _ _ _ _ a5t (a1x a4s rfl a5v A3k (@a0a _ _ _ _ _ (pv 0) a0c (by rfl))) a0h (a1d _))))) (@a0f _ _ _ a2h) a0x)
   (@a0b _ _ _ _ _ (@a2c _ _ _ _ _ _ _ _ (PW.pt (b1h (a4g (a3t (b6w rfl a1a (@a0u _ _ _ _ _ _ _ a0p (pv 0) a0h (fun _ _=>rfl)) b_str boot_str))) (b0y (@a0v _ _ _ _ _ _ _ _ op_notInTab (@a0u _ _ _ _ _ _ _ a0p (pv 0) a0h (fun _ _=>rfl)) (pe_gt a4z) rfl)))) (@a0f _ _ _ a2h) a0x)
   (@a0b _ _ _ _ _ (@a0q _ _ 1 _ _ _ _ b2w.nd rfl (Or.inl rfl) (b1u sl_tup (pv 0) (b4g a0h) b8x) (by rfl) (by first|exact .inl rfl|exact .inr rfl|assumption))
   (@a0b _ _ _ _ _ (@a2c _ _ _ _ _ _ _ _ (@a0v _ _ _ _ _ _ _ _ c5k (a1x a4s rfl a5v A3k (@a0a _ _ _ _ _ (pv 1) a0c (by rfl))) (@a0u _ _ _ _ _ _ _ ix_tab (pe_gt a4z) (@a0u _ _ _ _ _ _ _ a0p (pv 0) a0h (fun _ _=>rfl)) (fun _ _=>rfl)) (a1d _)) (@a0f _ _ _ a2h) a0x)
   (@a0b _ _ _ _ _ (@a2c _ _ _ _ _ _ _ _ (a4g (a3t (a1x (a7p rfl) rfl a9z a9w (@a0a _ _ _ _ _ (a3d (sc:=a0g a9y) rfl (by fail"k5") (by show ("k":Str)∉(["words","at"]:List Str);decide +kernel) (by show (".0":Str)∉(["words","at"]:List Str);decide +kernel) b2w.nd rfl (pi_tup (pv 1)) (fun _ _ _ _=>a2q) (fun _ _ _ _=>(a0y a1k hr a0r (@a0a _ _ _ _ _ (pv 0) a0c (by rfl))))) a0c (by rfl))))) (@a0f _ _ _ a2h) a0x)
   (@a0f _ _ _ (@a2c _ _ _ _ _ _ _ _ (PW.pt (pw_and (@a0v _ _ _ _ _ _ _ _ a5t (a1x a4s rfl a5v A3k (@a0a _ _ _ _ _ (pv 1) a0c (by rfl))) a0h (a1d _)) (pw_and1 (@a0v _ _ _ _ _ _ _ _ a5t (@a0u _ _ _ _ _ _ _ a0p (pv 1) a0h (fun _ _=>rfl)) (@a0u _ _ _ _ _ _ _ a0p (pv 1) a0h (fun _ _=>rfl)) (a1d _))))) (@a0f _ _ _ a2h) a0x))))))),?_⟩
 fail"st";fail"go";have tl:Tab K a4y tabW:=a4z.2
 rcases hq with nw|⟨a,k,is,rfl,⟨ha,hl,hn⟩,hQ⟩
 ·exact nw.elim
 ·refine d3c (c5j.tup ha) b6g ?_;have ha':=SqT.of (K:=K) ha;fail"go";refine ite_f (fun z=>by first|(simp at z;done)|(simp at z;omega)) ?_;fail"go";refine st_inTab tl ?_;rw[tab_word,show (true != (some (DK.n _:Int)).isSome)=false from rfl];fail"go";refine st_tl ha' (fun p hp=>?_);have hp':SqT K (upd H p (.tup (is.map V.int))) p (is.map V.int):=SqT.of a0d;fail"go";refine st_ixTab tl (tab_word k) ?_;fail"go";rw[A0b];refine iteN (fun c=>(c (by omega)).elim) (fun _=>?_);fail"go";refine b3s (fun P h=>⟨_,rfl,h⟩) hp' (fun j ys H'=>H'=upd H p (.tup (is.map V.int))/\ys=(A1u j true).map V.bl) (by rw[A0b];have:=k.n_pos;omega) ⟨rfl,rfl⟩ ?_ ?_ ?_ ?_
  ·rintro j ys H' ⟨rfl,rfl⟩;rw[A0b,A4e];omega
  ·rintro j ys H' ⟨rfl,rfl⟩;exact hp'
  ·rintro j x ys H' hx ⟨rfl,rfl⟩;fail"go";obtain⟨i,rfl⟩:=c8y hx;refine⟨_,true,rfl,WN.int _ _ _,rfl,?_⟩;rw[A5b,A0f];rfl
  ·rintro ys H' ⟨rfl,rfl⟩ p2 hp2;fail"go";refine c1y (bs:=A1u (is.map V.int).length true) (SqL.of a0d) ?_;rw[d4z];have hS:a1n H (upd (upd H p (.tup (is.map V.int))) p2 (.lst ((A1u (is.map V.int).length true).map V.bl))):=(a0e hp _).trans (a0e hp2 _);have hp3:SqT K (upd (upd H p (.tup (is.map V.int))) p2 (.lst ((A1u (is.map V.int).length true).map V.bl))) p (is.map V.int):=(a0e hp2 _).tup hp';fail"go";refine b8w (fun c=>?_) (fun c=>?_)
   ·rw[A0b] at c;obtain⟨i,j,rfl⟩:=len2 (is:=is) (by omega)
    have hij:¬i=j:=by
     intro z;subst z;simp at hn
    fail"go";refine ite_f hij ?_;fail"go";exact hQ _ hS
   ·fail"go";exact hQ _ hS
include T_D k_Swap k_Over c2h k_Back k_Both d4f b0a b_min in theorem c4r (F:Fun K "deed_of_words" "deed_of_words" b0q f fd):a2n P w K mg base CX0 4 f fd ["words"] (b3c K a5s):=by
 refine F.ok b5g (by fail"ln") ?_;fail"fi";obtain⟨v,rfl,hq⟩:=h
 refine⟨_,(@a0b _ _ _ _ _ (a1w (a0y b0a hr a0r (@a0a _ _ _ _ _ (pv 0) a0c (by rfl))))
   (@a0b _ _ _ _ _ (@a2c _ _ _ _ _ _ _ _ (@a0v _ _ _ _ _ _ _ _ op_lt (a1x (call_minL rfl) rfl b_min boot_min (@a0a _ _ _ _ _ (b1u sl_tup (pv 0) (b4g a0h) b8x) a0c (by rfl))) a0h (a1d _)) (@a0f _ _ _ a2h) a0x)
   (@a0b _ _ _ _ _ (@a0q _ _ 1 _ _ _ _ b5g.nd rfl (Or.inl rfl) (@a0u _ _ _ _ _ _ _ a0p (pv 0) a0h (fun _ _=>rfl)) (by rfl) (by first|exact .inl rfl|exact .inr rfl|assumption))
   (@a0b _ _ _ _ _ (@a2c _ _ _ _ _ _ _ _ (@a0v _ _ _ _ _ _ _ _ a5t (pv 1) a1h (a1d _)) (@a0f _ _ _ (@a0t _ _ _ _ (b5d k_Over hr a0r (@a0a _ _ _ _ _ (@a0u _ _ _ _ _ _ _ a0p (pv 0) a0h (fun _ _=>rfl)) a0c (by rfl))))) a0x)
   (@a0b _ _ _ _ _ (@a2c _ _ _ _ _ _ _ _ (@a0v _ _ _ _ _ _ _ _ a5t (pv 1) a1h (a1d _)) (@a0f _ _ _ (@a0t _ _ _ _ (b5d c2h hr a0r (@a0a _ _ _ _ _ (@a0u _ _ _ _ _ _ _ a0p (pv 0) a0h (fun _ _=>rfl)) a0c (by rfl))))) a0x)
   (@a0b _ _ _ _ _ (@a2c _ _ _ _ _ _ _ _ (@a0v _ _ _ _ _ _ _ _ a5t (pv 1) a1h (a1d _)) (@a0f _ _ _ (@a0t _ _ _ _ (b5d k_Back hr a0r (@a0a _ _ _ _ _ (@a0u _ _ _ _ _ _ _ a0p (pv 0) a0h (fun _ _=>rfl)) a0c (by rfl))))) a0x)
   (@a0b _ _ _ _ _ (@a2c _ _ _ _ _ _ _ _ (@a0v _ _ _ _ _ _ _ _ a5t (pv 1) a1h (a1d _)) (@a0f _ _ _ (@a0t _ _ _ _ (b5d k_Both hr a0r (@a0a _ _ _ _ _ (@a0u _ _ _ _ _ _ _ a0p (pv 0) a0h (fun _ _=>rfl)) a0c (by rfl))))) a0x)
   (@a0b _ _ _ _ _ (@a2c _ _ _ _ _ _ _ _ (@a0v _ _ _ _ _ _ _ _ a5t (pv 1) a1h (a1d _)) (@a0f _ _ _ (@a0t _ _ _ _ (b5d d4f hr a0r (@a0a _ _ _ _ _ (@a0u _ _ _ _ _ _ _ a0p (pv 0) a0h (fun _ _=>rfl)) (@a0a _ _ _ _ _ (@a0u _ _ _ _ _ _ _ a0p (pv 0) a0h (fun _ _=>rfl)) a0c (by rfl)) (by rfl))))) a0x)
   (@a0f _ _ _ (@a0t _ _ _ _ (b5d k_Swap hr a0r (@a0a _ _ _ _ _ (@a0u _ _ _ _ _ _ _ a0p (pv 0) a0h (fun _ _=>rfl)) (@a0a _ _ _ _ _ (@a0u _ _ _ _ _ _ _ a0p (pv 0) a0h (fun _ _=>rfl)) a0c (by rfl)) (by rfl))))))))))))),?_⟩
 fail"st";fail"go"
 rcases hq with nw|⟨a,k,is,rfl,wd,hQ,hE⟩
 ·exact nw.elim
 ·refine⟨_,rfl,.inr ⟨a,k,is,rfl,wd,fun H1 hS1=>?_⟩⟩;obtain⟨ha,hl,hn⟩:=wd;have ha1:SqT K H1 a (.str k.word::is.map V.int):=SqT.of (hS1 _ _ ha);have hk0:=k.n_pos;fail"go";refine st_tl ha1 (fun p hp=>?_);fail"go";refine st_bestT (ns:=is) (SqT.of a0d) (by omega) fun M hM hle=>?_;have hS2:a1n H (upd H1 p (.tup (is.map V.int))):=hS1.trans (a0e hp _);have ha2:SqT K (upd H1 p (.tup (is.map V.int))) a (.str k.word::is.map V.int):=(a0e hp _).tup ha1;fail"go";refine b8w (fun c=>?_) (fun c=>?_)
  ·exact(hE (fun z=>by have:=z M hM;omega) _ hS2).elim
  ·have hpos:∀i∈is,0<=i:=fun i hi=>by have:=hle i hi;omega
   have hQ':=hQ hpos
   have fin1:∀(x dx:Addr) (i:Int),is=[i]->(upd H1 p (.tup (is.map V.int))) x=none->(upd H1 p (.tup (is.map V.int))) dx=none->dx≠x->
     c1b K a5s k [.ref x,.int i] (upd (upd (upd H1 p (.tup (is.map V.int))) dx (.own x)) x (.ins (a5s k) dx [])) (fun v H2=>v=.non/\Q (.ref x) H2) E0:=by
    intro x dx i hi hx hdx hne;obtain⟨j,rfl⟩:∃j:Nat,i=(j:Int):=⟨i.toNat,by have:=hpos i (by rw[hi];simp);omega⟩;refine⟨x,j,rfl,dx,a0d,fun t ht=>⟨rfl,?_⟩⟩;refine hQ' x ⟨k,[j]⟩ _ (hS2.trans (same_init hx hdx ht)) ⟨dx,t,a0d,?_,by show 1=k.n;rw[<- hl,hi];rfl⟩ rfl hi.symm;rw[a0w (A4m (a0j a0d ht)),a0d]
   have fin2:∀(x dx:Addr) (i i2:Int),is=[i,i2]->(upd H1 p (.tup (is.map V.int))) x=none->(upd H1 p (.tup (is.map V.int))) dx=none->dx≠x->
     d4w K a5s k [.ref x,.int i,.int i2] (upd (upd (upd H1 p (.tup (is.map V.int))) dx (.own x)) x (.ins (a5s k) dx [])) (fun v H2=>v=.non/\Q (.ref x) H2) E0:=by
    intro x dx i i2 hi hx hdx hne;obtain⟨j,rfl⟩:∃j:Nat,i=(j:Int):=⟨i.toNat,by have:=hpos i (by rw[hi];simp);omega⟩;obtain⟨j2,rfl⟩:∃j:Nat,i2=(j:Int):=⟨i2.toNat,by have:=hpos i2 (by rw[hi];simp);omega⟩;refine⟨x,j,j2,rfl,dx,a0d,fun t ht=>⟨rfl,?_⟩⟩;refine hQ' x ⟨k,[j,j2]⟩ _ (hS2.trans (same_init hx hdx ht)) ⟨dx,t,a0d,?_,by show 2=k.n;rw[<- hl,hi];rfl⟩ rfl hi.symm;rw[a0w (A4m (a0j a0d ht)),a0d]
   cases k with
   | over=>
    obtain⟨i,rfl⟩:=len1 hl;fail"kw";exact fun x dx hx hdx hne=>fin1 x dx i rfl hx hdx hne
   | quarter=>
    obtain⟨i,rfl⟩:=len1 hl;fail"kw";exact fun x dx hx hdx hne=>fin1 x dx i rfl hx hdx hne
   | back=>
    obtain⟨i,rfl⟩:=len1 hl;fail"kw";exact fun x dx hx hdx hne=>fin1 x dx i rfl hx hdx hne
   | both=>
    obtain⟨i,rfl⟩:=len1 hl;fail"kw";exact fun x dx hx hdx hne=>fin1 x dx i rfl hx hdx hne
   | wher=>
    obtain⟨i,i2,rfl⟩:=len2 hl;fail"kw";exact fun x dx hx hdx hne=>fin2 x dx i i2 rfl hx hdx hne
   | swap=>
    obtain⟨i,i2,rfl⟩:=len2 hl;fail"kw";exact fun x dx hx hdx hne=>fin2 x dx i i2 rfl hx hdx hne
include c8g c0v a3r in theorem ok_deed_of (F:Fun K "deed_of" "deed_of" c6p f fd):a2n P w K mg base CX0 5 f fd ["words","n"] (c6w K a5s):=by
 refine F.ok d2e (by fail"ln") ?_;fail"fi";obtain⟨v,n,rfl,hq⟩:=h
 refine⟨_,(@a0b _ _ _ _ _ (@a0q _ _ 2 _ _ _ _ d2e.nd rfl (Or.inl rfl) (a0y a3r hr a0r (@a0a _ _ _ _ _ (pv 0) a0c (by rfl))) (by rfl) (by first|exact .inl rfl|exact .inr rfl|assumption))
   (@a0b _ _ _ _ _ (@a2c _ _ _ _ _ _ _ _ (@a0v _ _ _ _ _ _ _ _ op_ge (a1x (call_maxL rfl) rfl c8g c5z (@a0a _ _ _ _ _ (c9q c0v hr a0r (pv 2)) a0c (by rfl))) (pv 1) (a1d _)) (@a0f _ _ _ a2h) a0x)
   (@a0f _ _ _ (@a0t _ _ _ _ (pv 2))))),?_⟩
 fail"st";fail"go"
 rcases hq with nw|⟨a,k,is,rfl,wd,hQ,hE⟩
 ·exact nw.elim
 ·refine⟨_,rfl,.inr ⟨a,k,is,rfl,wd,fun hpos p d H1 hS1 hd hdk hdw=>?_,fun hneg H1 hS1=>hE (fun z=>hneg fun i hi=>(z i hi).1) H1 hS1⟩⟩;fail"go";obtain⟨dx,t,hp,ht,hl⟩:=id hd;refine a4r hp (c7u _ _ (by decide +kernel) (by decide +kernel) (by decide +kernel)) ?_;fail"go";refine⟨p,d,rfl,hd,fun p2 hp2=>?_⟩;fail"go";have hk0:=d.k.n_pos;refine st_bestL (ns:=is) (by rw[<- hdw,<- vn_ints];exact SqL.of a0d) (by rw[<- hdw,A0b];omega) fun M hM hle=>?_;fail"go";refine b8w (fun c=>?_) (fun c=>?_)
  ·exact(hE (fun z=>by have:=z M hM;omega) H1 hS1).elim
  ·fail"go";exact hQ (fun i hi=>⟨hpos i hi,by have:=hle i hi;omega⟩) p d _ (hS1.trans (a0e hp2 _)) (hd.same (a0e hp2 _)) hdk hdw
include T_M b7m b0x in theorem d5r (F:Fun K "do" "Machine.do" b5p f fd):a2n P w K mg base CX0 6 f fd ["self","words"] (c1a K a5s b7v):=by
 refine F.ok d7e (by fail"ln") ?_;fail"fi";obtain⟨x,w,n,d,rs,rfl,hw,ok,hn,⟨dx,a,as,hx,ha,hR⟩,hl,q⟩:=h;refine⟨_,(@a0f _ _ _ (a1w (b3p b7m hr a0r (pv 0) (@a0a _ _ _ _ _ (a0y b0x hr a0r (@a0a _ _ _ _ _ (pv 1) (@a0a _ _ _ _ _ (a3b (pv 0) rfl) a0c (by rfl)) (by rfl))) a0c (by rfl))))),?_⟩;have hw1000:∀i∈d.w,i<=1000:=fun i hi=>by have:=ok.lt i hi;omega
 fail"st";fail"go";refine a4r (d:=MK.sg) hx rfl ?_;fail"go";refine a1y hx (T_M.cl .sg) (T_M.n_n .sg) rfl ?_;fail"go";refine⟨_,n,rfl,.inr ⟨w,d.k,_,rfl,Wt.wd hw ok c0q,fun _ pd d3 H3 hS3 hd3 hk3 hw3=>?_,fun z=>(z (vn_rng ok)).elim⟩⟩;obtain rfl:d3=d:=dd_eq hk3 hw3;fail"go";refine⟨x,pd,n,d3,rs,rfl,⟨dx,a,as,hS3 _ _ hx,hS3 _ _ ha,hR.mono fun a d x=>Rt.same hS3 x⟩,hl,hd3,hw1000,fun H4 hB hE=>?_⟩;fail"go";exact q H4 (fun c o hc e=>hB _ _ hc (hS3 _ _ e)) hE
include a4v T_M in theorem d3x (F:Fun K "rows" "Signs.rows" b6m f fd):a2n P w K mg base CX0 1 f fd ["self"] (c1n K b7v):=by
 refine F.ok d3z (by fail"ln") ?_;fail"fi";obtain⟨x,n,rs,rfl,⟨dx,a,as,hx,ha,hR⟩,hl,q⟩:=h;refine⟨_,(@a0f _ _ _ (@a0t _ _ _ _ (a9a b0d rfl a4v a8y (@a0a _ _ _ _ _ (a3b (pv 0) rfl) a0c (by rfl))))),?_⟩;fail"st";fail"go";refine a1y hx (T_M.cl .sg) (T_M.n_kept .sg) rfl ?_;fail"go";have:=hR.len;refine⟨a,a1c as,rfl,.inl (SqL.of ha),fun p hp=>?_⟩;fail"go";exact q p as _ (a0e hp _) hp a0d (hR.mono fun a d x=>Rt.same (a0e hp _) x)
include a4t a4q c8g in theorem ok_widest (F:Fun K "widest" "widest" c6e f fd):a2n P w K mg base CX0 1 f fd ["rows"] (sp_widest K):=by
 refine F.ok sc_widest (by fail"ln") ?_;fail"fi";obtain⟨l,as,rs,rfl,hl,hW,hz,h0,hok,q⟩:=h;refine⟨_,(@a0f _ _ _ (@a0t _ _ _ _ (a1x (call_maxL rfl) rfl c8g c5z (@a0a _ _ _ _ _ (a3d (sc:=a0g c6e) rfl (by fail"k5") (by show ("row":Str)∉(["rows"]:List Str);decide +kernel) (by show (".0":Str)∉(["rows"]:List Str);decide +kernel) sc_widest.nd rfl (a1q (pv 0)) (fun _ _ _ _=>a2q) (fun _ _ _ _=>(pe_bm0K (K:=K) rfl A7k A6e A6f b4r (a1x (call_max2 rfl) rfl c8g c5z (@a0a _ _ _ _ _ (@a0u _ _ _ _ _ _ _ (d4v (K:=K) rfl) (pv 0) (a1p a4t) (fun _ _=>rfl)) (@a0a _ _ _ _ _ (@a0u _ _ _ _ _ _ _ (d4v (K:=K) rfl) (pv 0) (a1p a4q) (fun _ _=>rfl)) a0c (by rfl)) (by rfl)))))) a0c (by rfl))))),?_⟩;fail"st";fail"go";refine a1z (fun P h=>⟨_,rfl,h⟩) (SqL.of hl) (fun i ys H'=>H'=H/\ys=vn ((rs.take i).map fun r=>A1f ((max r.x r.z:Nat):Int))) (by rw[a0m];omega) ⟨rfl,rfl⟩ ?_ ?_ ?_ ?_
 ·rintro i ys H' ⟨_,rfl⟩;rw[a6z,A0b,A0q];omega
 ·rintro i ys H' ⟨rfl,_⟩;exact SqL.of hl
 ·rintro i x ys H' hx ⟨rfl,rfl⟩;obtain⟨a,ha,rfl⟩:=a1r hx;obtain⟨r,hr,hra⟩:=hW.get ha;have hra':SqT K H' a [.int (r.m:Nat),.int (r.x:Nat),.int (r.z:Nat)]:=SqT.of hra;fail"go";refine⟨(r.x:Int),(r.z:Int),rfl,?_⟩
  have em:(if (r.z:Int)>(r.x:Int) then (r.z:Int) else (r.x:Int))=((max r.x r.z:Nat):Int):=by
   split<;>omega
  rw[em];fail"go";refine⟨rfl,?_⟩;rw[a0s hr,A0f,<- c2c];rfl
 ·rintro ys H' ⟨rfl,rfl⟩ p hp;rw[a0m,hW.len,A0t];fail"go";refine st_bestL (ns:=(rs.map fun r=>A1f ((max r.x r.z:Nat):Int)).map fun k:Nat=>(k:Int)) (by rw[<- vn_ints];exact SqL.of a0d) (by rw[A0b,A0b,<- hW.len];exact h0) fun M hM hall=>?_;obtain⟨k,hk,rfl⟩:=A0r.1 hM;obtain⟨r0,hr0,rfl⟩:=A0r.1 hk;refine q _ _ (a0e hp _) (b7j (Nat.max_lt.2 ⟨(hok r0 hr0).x,(hok r0 hr0).z⟩)) fun r hr=>?_;have h1:=hall _ (A0r.2 ⟨_,A0r.2 ⟨r,hr,rfl⟩,rfl⟩);have h2:=c2m (max r.x r.z);have h3:=A0g (show 0<2 by decide) (show A1f ((max r.x r.z:Nat):Int)<=A1f ((max r0.x r0.z:Nat):Int) by omega);omega
include a3q a1f in theorem ok_places (F:Fun K "places" "places" c6m f fd):a2n P w K mg base CX0 2 f fd ["number"] (sp_places K):=by
 refine F.ok sc_places (by fail"ln") ?_;fail"fi";obtain⟨n,rfl,hn,q⟩:=h;refine⟨_,(@a0f _ _ _ (@a0t _ _ _ _ (a3d (sc:=a0g c6m) rfl (by fail"k5") (by show ("k":Str)∉(["number"]:List Str);decide +kernel) (by show (".0":Str)∉(["number"]:List Str);decide +kernel) sc_places.nd rfl (b1a rfl a3q (@a0a _ _ _ _ _ (pe_bm0 A7k A6e A6f b4r (pv 0)) a0c (by rfl))) (fun _ _ _ _=>(pif_one (@a0v _ _ _ _ _ _ _ _ a5t (a0y a1f hr a0r (@a0a _ _ _ _ _ (pv 1) (@a0a _ _ _ _ _ (pv 0) a0c (by rfl)) (by rfl))) a0h (a1d _)))) (fun _ _ _ _=>(pv 0))))),?_⟩;fail"st";fail"go";have hb:A1f (n:Int)<=100:=b7j hn;refine b4j (n:=A1f (n:Int)) (by omega) (fun P h=>?_) (fun i ys H'=>ys=vn (plc n i)/\H'=H) ⟨rfl,rfl⟩ ?_ ?_ ?_
 ·fail"go";exact h
 ·rintro i ys H' ⟨rfl,rfl⟩;unfold vn;rw[A0b,c3f];exact cnt_le _ _
 ·rintro i ys H' hi ⟨rfl,rfl⟩;fail"go";refine⟨n,i,rfl,?_⟩;fail"go";refine b8w (fun c=>?_) (fun c=>?_)
  ·have e:n.testBit i=true:=by
    revert c;unfold bI;cases n.testBit i<;>decide
   fail"go";refine⟨?_,rfl⟩;rw[plc,if_pos e];unfold vn;rw[A0f];rfl
  ·have e:n.testBit i=false:=by
    revert c;unfold bI;cases n.testBit i<;>decide
   refine⟨?_,rfl⟩;rw[plc,e];rfl
 ·rintro ys H' ⟨rfl,rfl⟩;exact q
include a4t a4q a8r in theorem ok_letters_y (F:Fun K "letters_y" "letters_y" b9s f fd):a2n P w K mg base CX0 2 f fd ["row"] (c3q K):=by
 refine F.ok sc_letters_y (by fail"ln") ?_;fail"fi";obtain⟨a,r,rfl,ha,q⟩:=h;refine⟨_,(@a0f _ _ _ (@a0t _ _ _ _ (a0y a8r hr a0r (@a0a _ _ _ _ _ (a0k a3f (@a0u _ _ _ _ _ _ _ a0p (pv 0) (a1p a4t) (fun _ _=>rfl)) (@a0u _ _ _ _ _ _ _ a0p (pv 0) (a1p a4q) (fun _ _=>rfl))) a0c (by rfl))))),?_⟩;fail"st";unfold Row.V at ha;fail"go";exact⟨_,rfl,q⟩
include a4t a4q a8r a2d a1s b1c in theorem ok_times (F:Fun K "times" "times" s_times f fd):a2n P w K mg base CX0 3 f fd ["one","other"] (sp_times K):=by
 refine F.ok c1s (by fail"ln") ?_;fail"fi";obtain⟨a,b,r,t,rfl,ha,hb,q1,q2⟩:=h
 refine⟨_,(@a0b _ _ _ _ _ (@a2c _ _ _ _ _ _ _ _ (a4g (a3t (a0y a2d hr a0r (@a0a _ _ _ _ _ (pv 0) (@a0a _ _ _ _ _ (pv 1) a0c (by rfl)) (by rfl))))) (@a0f _ _ _ a2h) a0x)
   (@a0b _ _ _ _ _ (@a0q _ _ 2 _ _ _ _ c1s.nd rfl (Or.inl rfl) (a0k a1t (@a0u _ _ _ _ _ _ _ a0p (pv 0) (a1p a4t) (fun _ _=>rfl)) (@a0u _ _ _ _ _ _ _ a0p (pv 1) (a1p a4t) (fun _ _=>rfl))) (by rfl) (by first|exact .inl rfl|exact .inr rfl|assumption))
   (@a0b _ _ _ _ _ (@a0q _ _ 3 _ _ _ _ c1s.nd rfl (Or.inl rfl) (a0k a1t (@a0u _ _ _ _ _ _ _ a0p (pv 0) (a1p a4q) (fun _ _=>rfl)) (@a0u _ _ _ _ _ _ _ a0p (pv 1) (a1p a4q) (fun _ _=>rfl))) (by rfl) (by first|exact .inl rfl|exact .inr rfl|assumption))
   (@a0b _ _ _ _ _ (@a0q _ _ 4 _ _ _ _ c1s.nd rfl (Or.inl rfl) (a0k a6x (a0k a6x (@a0u _ _ _ _ _ _ _ a0p (pv 0) (a1p a1s) (fun _ _=>rfl)) (@a0u _ _ _ _ _ _ _ a0p (pv 1) (a1p a1s) (fun _ _=>rfl))) (a0y a8r hr a0r (@a0a _ _ _ _ _ (a0k a3f (@a0u _ _ _ _ _ _ _ a0p (pv 0) (a1p a4t) (fun _ _=>rfl)) (@a0u _ _ _ _ _ _ _ a0p (pv 1) (a1p a4q) (fun _ _=>rfl))) a0c (by rfl)))) (by rfl) (by first|exact .inl rfl|exact .inr rfl|assumption))
   (@a0b _ _ _ _ _ (@a0q _ _ 5 _ _ _ _ c1s.nd rfl (Or.inl rfl) (a0k b3n (a0k a6x (a0k a6x (a0k op_mul a0h (pv 4)) (a0y b1c hr a0r (@a0a _ _ _ _ _ (pv 0) a0c (by rfl)))) (a0y b1c hr a0r (@a0a _ _ _ _ _ (pv 1) a0c (by rfl)))) (a0y a8r hr a0r (@a0a _ _ _ _ _ (a0k a3f (pv 2) (pv 3)) a0c (by rfl)))) (by rfl) (by first|exact .inl rfl|exact .inr rfl|assumption))
   (@a0f _ _ _ (@a0t _ _ _ _ (@a1m _ _ _ _ _ (@a0a _ _ _ _ _ (a0k a8b (a0k a6d (pv 5) a0h) a0h) (@a0a _ _ _ _ _ (pv 2) (@a0a _ _ _ _ _ (pv 3) a0c (by rfl)) (by rfl)) (by rfl)))))))))),?_⟩
 fail"st";fail"go";refine⟨a,b,r,t,rfl,ha,hb,?_⟩;fail"go";refine iteN (fun c=>?_) (fun c=>?_)
 ·exact(q2 c).elim
 have hs:a2v r t=false:=(b1n r t).2 c;unfold Row.V at ha hb;fail"go";refine⟨_,rfl,?_⟩;fail"go";refine⟨a,r,rfl,ha,?_⟩;fail"go";refine⟨b,t,rfl,hb,?_⟩;fail"go";refine⟨_,rfl,?_⟩;fail"go";rename_i p hp;have q3:=q1 hs p hp;unfold Row.V at q3;rw[<- tm_prog hs] at q3;exact q3
include b4h in theorem d5a (F:Fun K "product_of" "product_of" b7d f fd):a2n P w K mg base CX0 4 f fd ["rows"] (c2a K):=by
 refine F.ok a9u (by fail"ln") ?_;fail"fi";obtain⟨l,as,us,rfl,hl,hW,hz,hcom,q⟩:=h
 refine⟨_,(@a0b _ _ _ _ _ (@a0q _ _ 1 _ _ _ _ a9u.nd rfl (Or.inl rfl) (@a1m _ _ _ _ _ (@a0a _ _ _ _ _ a0h (@a0a _ _ _ _ _ a0h (@a0a _ _ _ _ _ a0h a0c (by rfl)) (by rfl)) (by rfl))) (by rfl) (by first|exact .inl rfl|exact .inr rfl|assumption))
   (@a0b _ _ _ _ _ (a4e A1d rfl (a1q (pv 0)) (a1g (i:=2) a9u.nd rfl (Or.inl rfl)) (@a0f _ _ _ (@a0q _ _ 1 _ _ _ _ a9u.nd rfl (Or.inl rfl) (a0y b4h hr a0r (@a0a _ _ _ _ _ (pv 1) (@a0a _ _ _ _ _ (pv 2) a0c (by rfl)) (by rfl))) (by rfl) (by first|exact .inl rfl|exact .inr rfl|assumption))))
   (@a0f _ _ _ (@a0t _ _ _ _ (pv 1))))),?_⟩
 fail"st";fail"go";rename_i p0 hp0;refine a4m (fun P h=>⟨_,rfl,h⟩) (SqL.of (a0e hp0 _ _ _ hl)) (fun i σ H'=>∃(u:Option V) (c:Addr),σ=[some (.ref l),some (.ref c),u]/\a1n H H'/\H' c=some (.tup (pr (us.take i)).V)) ⟨none,p0,rfl,a0e hp0 _,a0d⟩ ?_ ?_ ?_
 ·rintro i σ H' _ ⟨u,c,_,s,_⟩;exact SqL.of (s _ _ hl)
 ·rintro i x σ H' hx ⟨u,c,rfl,s,hc⟩;obtain⟨a,ha,rfl⟩:=a1r hx;obtain⟨r,hr,hra⟩:=hW.get ha;fail"go";refine⟨c,a,pr (us.take i),r,rfl,SqT.of hc,SqT.of (Rt.same s hra),fun _ p hp=>?_,fun z=>(z ((b1n _ _).1 (hcom i r hr))).elim⟩;fail"go";refine⟨_,p,rfl,s.trans (a0e hp _),?_⟩;rw[pr_take hr];exact a0d
 ·rintro σ H' ⟨u,c,rfl,s,hc⟩;fail"go";rw[a0m,hW.len,A0t] at hc;exact q c H' s hc
include T_S b3a a1s a0z a5g c6d a8j b2b in theorem ok_made_of (F:Fun K "made_of" "made_of" b6n f fd):a2n P w K mg base CX0 5 f fd ["rows","row"] (d2y K):=by
 refine F.ok a7x (by fail"ln") ?_;fail"fi";obtain⟨l,a,as,rs,o,rfl,hl,hW,hz,ha,hok,oko,hcom,q⟩:=h
 refine⟨_,(@a0b _ _ _ _ _ (@a0q _ _ 2 _ _ _ _ a7x.nd rfl (Or.inr rfl) (a0y c6d hr a0r (@a0a _ _ _ _ _ (a0k d3g (pv 0) (@a5c _ _ _ _ (@a0a _ _ _ _ _ (pv 1) a0c (by rfl)))) a0c (by rfl))) (by rfl) (by first|exact .inl rfl|exact .inr rfl|assumption))
   (@a0b _ _ _ _ _ (@a0q _ _ 3 _ _ _ _ a7x.nd rfl (Or.inl rfl) (b3p a5g hr a0r (b5d b3a hr a0r (@a0a _ _ _ _ _ (a3d (sc:=a0g b6n) rfl (by fail"k5") (by show ("other":Str)∉(["rows","row","width","parts","numbers","product"]:List Str);decide +kernel) (by show (".0":Str)∉(["rows","row","width","parts","numbers","product"]:List Str);decide +kernel) a7x.nd rfl (a1q (pv 0)) (fun _ _ _ _=>a2q) (fun _ _ _ _=>(a0y a0z hr a0r (@a0a _ _ _ _ _ (pv 0) (@a0a _ _ _ _ _ (pv 3) a0c (by rfl)) (by rfl))))) a0c (by rfl))) (@a0a _ _ _ _ _ (a0y a0z hr a0r (@a0a _ _ _ _ _ (pv 1) (@a0a _ _ _ _ _ (pv 2) a0c (by rfl)) (by rfl))) a0c (by rfl))) (by rfl) (by first|exact .inl rfl|exact .inr rfl|assumption))
   (@a0b _ _ _ _ _ (@a2c _ _ _ _ _ _ _ _ (@a0v _ _ _ _ _ _ _ _ op_isN (pv 3) c1q (a1d _)) (@a0f _ _ _ (@a0t _ _ _ _ c1q)) a0x)
   (@a0b _ _ _ _ _ (@a0q _ _ 4 _ _ _ _ a7x.nd rfl (Or.inl rfl) (a0y a8j hr a0r (@a0a _ _ _ _ _ (pv 3) a0c (by rfl))) (by rfl) (by first|exact .inl rfl|exact .inr rfl|assumption))
   (@a0b _ _ _ _ _ (@a0q _ _ 5 _ _ _ _ a7x.nd rfl (Or.inl rfl) (a0y b2b hr a0r (@a0a _ _ _ _ _ (a3d (sc:=a0g b6n) rfl (by fail"k5") (by show ("k":Str)∉(["rows","row","width","parts","numbers","product"]:List Str);decide +kernel) (by show (".0":Str)∉(["rows","row","width","parts","numbers","product"]:List Str);decide +kernel) a7x.nd rfl (a1q (pv 4)) (fun _ _ _ _=>a2q) (fun _ _ _ _=>(@a0u _ _ _ _ _ _ _ (ix_listK (K:=K) rfl) (pv 1) (pv 0) (fun _ _=>rfl)))) a0c (by rfl))) (by rfl) (by first|exact .inl rfl|exact .inr rfl|assumption))
   (@a0f _ _ _ (@a0t _ _ _ _ (@a1m _ _ _ _ _ (@a0a _ _ _ _ _ (pv 4) (@a0a _ _ _ _ _ (a0k a1t (@a0u _ _ _ _ _ _ _ a0p (pv 5) (a1p a1s) (fun _ _=>rfl)) (@a0u _ _ _ _ _ _ _ a0p (pv 1) (a1p a1s) (fun _ _=>rfl))) a0c (by rfl)) (by rfl)))))))))),?_⟩
 fail"st";fail"go";rename_i p1 hp1 p2 hp2;have S2:=(a0e hp1 (.lst [.ref a])).trans (a0e hp2 (.lst (a1c as++[.ref a])));have f2:(upd (upd H p1 (.lst [.ref a])) p2 (.lst (a1c as++[.ref a]))) p2=some (.lst (a1c (as++[a]))):=by rw[a0d,a2f]
 generalize upd (upd H p1 (.lst [.ref a])) p2 (.lst (a1c as++[.ref a]))=G2 at S2 f2 ⊢;have hW2:a2a (Rt K G2) as rs:=hW.mono fun a d x=>Rt.same S2 x;have lrs:as.length=rs.length:=hW.len;refine⟨p2,as++[a],rs++[o],rfl,f2,hW2.snoc (S2 _ _ ha),by rw[A0j];show _+1<=_;omega,by rw[A0j];show 0<_+1;omega,fun r hr=>?_,fun wd H3 s3 hw hwx=>?_⟩
 ·rcases A0p.1 hr with hr|hr
  ·exact hok r hr
  ·rw[A0h.1 hr];exact oko
 have hwr:∀r∈rs,r.x<2^wd/\r.z<2^wd:=fun r hr=>hwx r (A2g _ hr);have hwo:=hwx o (by simp);have S3:=S2.trans s3;have l3:=S3 _ _ hl;have W3:a2a (Rt K H3) as rs:=hW.mono fun a d x=>Rt.same S3 x;fail"go";refine a1z (fun P h=>⟨_,rfl,h⟩) (SqL.of l3) (fun i ys H'=>H'=H3/\ys=vn ((rs.take i).map fun r=>r.x^^^r.z*2^wd)) (by rw[a0m];omega) ⟨rfl,rfl⟩ ?_ ?_ ?_ ?_
 ·rintro i ys H' ⟨_,rfl⟩;rw[a6z,A0b,A0q];omega
 ·rintro i ys H' ⟨rfl,_⟩;exact SqL.of l3
 ·rintro i x ys H' hx ⟨rfl,rfl⟩;obtain⟨b,hb,rfl⟩:=a1r hx;obtain⟨r,hr,hrb⟩:=W3.get hb;have hrm:=List.mem_of_getElem? hr;fail"go";refine⟨b,wd,r,rfl,SqT.of hrb,(hwr r hrm).1,(hok r hrm).z,hw,rfl,?_⟩;rw[a0s hr,A0f,<- c2c];rfl
 ·rintro ys H' ⟨rfl,rfl⟩ p4 hp4;rw[a0m,hW.len,A0t];generalize hus:(rs.map fun r=>r.x^^^r.z*2^wd)=us;have lus:us.length=rs.length:=by rw[<- hus,A0b]
  have S4:=S3.trans (a0e hp4 (.lst (vn us)));have f4:(upd H' p4 (.lst (vn us))) p4=some (.lst (vn us)):=a0d;generalize upd H' p4 (.lst (vn us))=H4 at S4 f4 ⊢;fail"go";intro xo dx nx ndx nxd;refine⟨xo,p4,dx,us,rfl,a0d,?_,by omega,fun H5 l5 ss oth hl5 hS _=>⟨rfl,?_⟩⟩
  ·rw[a0w (a0j f4 nx),a0w (a0j f4 ndx)];exact f4
  have S5:a1n H4 H5:=fun c ob e=>oth c ob (a0j e nx) (by rw[a0w (a0j e nx),a0w (a0j e ndx)];exact e);have S05:=S4.trans S5;obtain⟨dx5,as5,hp5,_,_,okS,_⟩:=id hS;refine a4r hp5 (b9g _ _ (by decide +kernel) (by decide +kernel)) ?_;fail"go";refine⟨a,wd,o,rfl,SqT.of (S05 _ _ ha),hwo.1,oko.z,hw,?_⟩;fail"go";refine⟨xo,l5,o.x^^^o.z*2^wd,us,ss,rfl,hS,by omega,fun H6 s6=>⟨fun h0=>?_,fun hne=>?_⟩⟩
  ·obtain⟨g1,g2,_⟩:=okS.left (o.x^^^o.z*2^wd);have hsel:=g2 h0;generalize (red ss (o.x^^^o.z*2^wd) 0).2=m at g1 hsel ⊢;have S6:=S05.trans s6;rw[lus] at g1;rw[<- hus] at hsel;have hL:Lsel rs m o:=(c3b (fun s hs=>(hwr s hs).1) hwo.1 m).1 hsel;have hpl:pls m=plc m rs.length:=(plc_more (c2m m) (b7j g1)).symm;have W6:a2a (Rt K H6) as rs:=hW.mono fun a d x=>Rt.same S6 x;have l6:SqL K H6 l (a1c as):=SqL.of (S6 _ _ hl);fail"go";refine⟨rfl,_,rfl,b8w (fun c=>by cases c) (fun _=>?_)⟩;fail"go";refine⟨m,rfl,A0c g1 (A0g (by decide) (by omega)),fun p7 hp7=>?_⟩;rw[hpl];have S7:=S6.trans (a0e hp7 (.lst (vn (plc m rs.length))));have f7:(upd H6 p7 (.lst (vn (plc m rs.length)))) p7=some (.lst (vn (plc m rs.length))):=a0d;generalize upd H6 p7 (.lst (vn (plc m rs.length)))=H7 at S7 f7 ⊢;have kl:∀k∈plc m rs.length,k<rs.length:=d3a m rs.length;have lk:(plc m rs.length).length<=40:=by rw[c3f];exact A1z (cnt_le _ _) (by omega)
   have l7:SqL K H7 l (a1c as):=SqL.of (S7 _ _ hl);have W7:a2a (Rt K H7) as rs:=hW.mono fun a d x=>Rt.same S7 x;generalize hks:plc m rs.length=ks at f7 kl lk ⊢;fail"go";refine a1z (fun P h=>⟨_,rfl,h⟩) (SqL.of f7) (fun i ys H'=>H'=H7/\∃bs,ys=a1c bs/\a2a (Rt K H7) bs (pk rs (ks.take i))) (by rw[a6z];omega) ⟨rfl,[],rfl,.nil⟩ ?_ ?_ ?_ ?_
   ·rintro i ys H' ⟨_,bs,rfl,e⟩;rw[a0m,e.len];unfold pk;rw[A0b,A0q];omega
   ·rintro i ys H' ⟨rfl,_⟩;exact SqL.of f7
   ·rintro i x ys H' hx ⟨rfl,bs,rfl,e⟩;obtain⟨k,rfl,hk⟩:=vn_at hx;have hkl:=kl k (List.mem_of_getElem? hk);have hkr:rs[k]? = some rs[k]:=List.getElem?_eq_getElem hkl;obtain⟨b,hb,hbr⟩:=W7.get' hkr;fail"go";refine c8r l7 (b9u (refs_at hb)) ?_;refine⟨rfl,bs++[b],a2f _ _,?_⟩
    have e2:pk rs (ks.take (i+1))=pk rs (ks.take i)++[rs[k]]:=by
     rw[a0s hk,pk_app];show _++[rs.getD k ⟨0,0,0⟩]=_;rw[List.getD_eq_getElem?_getD,hkr];rfl
    rw[e2];exact e.snoc hbr
   ·rintro ys H' ⟨rfl,bs,rfl,e⟩ p8 hp8;rw[a6z,A0t] at e;have S8:=S7.trans (a0e hp8 (.lst (a1c bs)));have f8:(upd H' p8 (.lst (a1c bs))) p8=some (.lst (a1c bs)):=a0d;have f78:=a0e hp8 (.lst (a1c bs)) _ _ f7;have e8:=e.mono fun a d (x:Rt K H' a d)=>Rt.same (a0e hp8 (.lst (a1c bs))) x;generalize upd H' p8 (.lst (a1c bs))=H8 at S8 f8 f78 e8 ⊢;fail"go";have pkm:=pk_mem kl;refine⟨p8,bs,pk rs ks,rfl,f8,e8,by rw[e.len];unfold pk;rw[A0b];omega,fun i r hr=>pr_com' hcom (fun u hu=>pkm u (A1x hu)) (pkm r (List.mem_of_getElem? hr)),fun p9 H9 s9 hp9=>?_⟩;have S9:=S8.trans s9;have ha9:SqT K H9 a [.int (o.m:Nat),.int (o.x:Nat),.int (o.z:Nat)]:=SqT.of (S9 _ _ ha);have hp9':SqT K H9 p9 [.int ((pr (pk rs ks)).m:Nat),.int ((pr (pk rs ks)).x:Nat),.int ((pr (pk rs ks)).z:Nat)]:=SqT.of hp9;fail"go";rename_i p10 hp10;have S10:=S9.trans (a0e hp10 (.tup [.ref p7,.int (((pr (pk rs ks)).m^^^o.m:Nat):Int)]));refine(q _ S10).2 m p10 p7 g1 hL ?_ ?_
    ·rw[hks];exact a0e hp10 _ _ _ (s9 _ _ f78)
    ·rw[hks];exact a0d
  ·obtain⟨_,_,g3⟩:=okS.left (o.x^^^o.z*2^wd);have hno:=g3 hne;fail"go";refine⟨rfl,_,rfl,b8w (fun _=>?_) (fun c=>(c rfl).elim)⟩;fail"go";refine(q _ (S05.trans s6)).1 fun m hL=>hno m ?_;rw[<- hus];exact(c3b (fun s hs=>(hwr s hs).1) hwo.1 m).2 hL
include T_M c0d in theorem b8y (F:Fun K "sure_value" "Signs.sure_value" a7e f fd):a2n P w K mg base CX0 6 f fd ["self","row"] (b0r K b7v):=by
 refine F.ok b0v (by fail"ln") ?_;fail"fi";obtain⟨x,w,n,ds,xx,zz,b,rfl,⟨dx,a,as,hx,ha,hR⟩,hds,hn,hw,wr,q⟩:=h;have W:=pln_wl hn hds;have oo:=wr.ok hds;have p40:=A0g (show 0<2 by decide) (show n<=40 by omega)
 refine⟨_,(@a0b _ _ _ _ _ (@a0q _ _ 2 _ _ _ _ b0v.nd rfl (Or.inl rfl) (a0y c0d hr a0r (@a0a _ _ _ _ _ (a3b (pv 0) rfl) (@a0a _ _ _ _ _ (pv 1) a0c (by rfl)) (by rfl))) (by rfl) (by first|exact .inl rfl|exact .inr rfl|assumption))
   (@a0f _ _ _ (@a0t _ _ _ _ (c6k (@a0v _ _ _ _ _ _ _ _ op_isN (pv 2) c1q (a1d _)) c1q (@a0u _ _ _ _ _ _ _ a0p (pv 2) a0h (fun _ _=>rfl)))))),?_⟩
 fail"st";fail"go";refine a1y hx (T_M.cl .sg) (T_M.n_kept .sg) rfl ?_;fail"go";refine⟨a,w,as,pln ds n,⟨0,xx,zz⟩,rfl,ha,hR,by rw[hR.len,W.len];omega,hw,fun s hs=>((W.wh s hs).ok hds).to40 (by omega),⟨A1v _,A0c oo.x p40,A0c oo.z p40⟩,fun r hr s hs=>(W.wh r hr).com hds (W.wh s hs),fun H1 S1=>⟨fun hno=>?_,fun m p l hm hL hl hp=>?_⟩⟩
 ·obtain⟨v,hv,e⟩:=wr;obtain⟨m,_,e2⟩:=W.sp v hv;rw[<- e] at e2;exact(hno m ((c3b (w:=n) (r:=⟨0,xx,zz⟩) (fun s hs=>((W.wh s hs).ok hds).x) oo.x m).1 e2)).elim
 ·have hp':=SqT.of (K:=K) hp;rw[pln_sure hn hds wr hm hL,A1t] at hp';fail"go";refine⟨rfl,_,rfl,b8w (fun c=>by cases c) (fun _=>?_)⟩;fail"go";exact q _ S1
include a4t a4q a2d T_M b4h in theorem d0a (F:Fun K "settle" "Signs.settle" b2k f fd):a2n P w K mg base CX0 4 f fd ["self","row","value"] (b6a K b7v):=by
 refine F.ok c9j (by fail"ln") ?_;fail"fi";obtain⟨_,_,_,_,h⟩:=h;exact h.elim
include a4t a4q a8r in theorem ok_weight_of (F:Fun K "weight_of" "weight_of" b9w f fd):a2n P w K mg base CX0 2 f fd ["row"] (c3n K):=by
 refine F.ok sc_weight_of (by fail"ln") ?_;fail"fi";obtain⟨a,r,rfl,ha,q⟩:=h;refine⟨_,(@a0f _ _ _ (@a0t _ _ _ _ (a0y a8r hr a0r (@a0a _ _ _ _ _ (a0k c3e (@a0u _ _ _ _ _ _ _ a0p (pv 0) (a1p a4t) (fun _ _=>rfl)) (@a0u _ _ _ _ _ _ _ a0p (pv 0) (a1p a4q) (fun _ _=>rfl))) a0c (by rfl))))),?_⟩;fail"st";unfold Row.V at ha;fail"go";exact⟨_,rfl,q⟩
include a1s a4h b4w in theorem d5g (F:Fun K "check_look" "check_look" b6c f fd):a2n P w K mg base CX0 3 f fd ["row","n"] (c1f K):=by
 refine F.ok d3u (by fail"ln") ?_;fail"fi";obtain⟨a,n,r,rfl,ha,ok,hn,hm,hz,q⟩:=h
 refine⟨_,(@a0b _ _ _ _ _ (a1w (a0y a4h hr passE0 (@a0a _ _ _ _ _ (pv 0) (@a0a _ _ _ _ _ (pv 1) a0c (by rfl)) (by rfl))))
   (@a0f _ _ _ (@a2c _ _ _ _ _ _ _ _ (PW.pt (b1h (@a0v _ _ _ _ _ _ _ _ a5t (@a0u _ _ _ _ _ _ _ a0p (pv 0) (a1p a1s) (fun _ _=>rfl)) a0h (a1d _)) (b0y (@a0v _ _ _ _ _ _ _ _ a5t (a0y b4w hr a0r (@a0a _ _ _ _ _ (pv 0) a0c (by rfl))) a0h (a1d _))))) (@a0f _ _ _ a2h) a0x))),?_⟩
 fail"st";fail"go";refine⟨a,n,r,rfl,ha,ok,hn,fun H1 S1=>?_⟩;have ha1:=SqT.of (K:=K) (S1 _ _ ha);have ha2:=ha1;unfold Row.V at ha2;fail"go";refine b8w (fun c=>by exfalso;omega) (fun c=>?_);fail"go";refine⟨a,r,rfl,ha1,?_⟩;fail"go";refine b8w (fun c=>?_) (fun c=>?_)
 ·exact(hz (by
   have h0:=pop_nil _ (show pop (r.x|||r.z)=0 by omega)
   exact⟨by have:=@Nat.left_le_or r.x r.z;omega,by have:=@Nat.right_le_or r.x r.z;omega⟩)).elim
 ·fail"go";exact q _ S1
theorem d1s (F:Fun K "value_drawn" "value_drawn" b4n f fd):a2n P w K mg base CX0 1 f fd ["draw"] (b8s K):=by
 refine F.ok d1u (by fail"ln") ?_;fail"fi";obtain⟨_,_,h⟩:=h;exact h.elim
include T_M a8p b7k b1y a9x in theorem c7s (F:FunD K "look" "Machine.look" a4w f fd .none):a2n P w K mg base CX0 7 f fd ["self","row","draw"] (b5w K b7v):=by
 refine F.ok b1d (by fail"ln") ?_;fail"fi";obtain⟨x,w,n,ds,xx,zz,b,rfl,hm,hds,hn,hw,wr,hz,q⟩:=h;obtain⟨dx,a,as,hx,ha,hR⟩:=id hm;have oo:=wr.ok hds
 refine⟨_,(@a0b _ _ _ _ _ (a1w (a0y b1y hr a0r (@a0a _ _ _ _ _ (pv 1) (@a0a _ _ _ _ _ (a3b (pv 0) rfl) a0c (by rfl)) (by rfl))))
   (@a0b _ _ _ _ _ (@a0q _ _ 3 _ _ _ _ b1d.nd rfl (Or.inl rfl) (b3p a8p hr a0r (pv 0) (@a0a _ _ _ _ _ (pv 1) a0c (by rfl))) (by rfl) (by first|exact .inl rfl|exact .inr rfl|assumption))
   (@a0b _ _ _ _ _ (@a2c _ _ _ _ _ _ _ _ (@a0v _ _ _ _ _ _ _ _ op_notN (pv 3) c1q (a1d _)) (@a0f _ _ _ (@a0t _ _ _ _ (@a1m _ _ _ _ _ (@a0a _ _ _ _ _ (pv 3) (@a0a _ _ _ _ _ c2n a0c (by rfl)) (by rfl))))) a0x)
   (@a0b _ _ _ _ _ (@a0q _ _ 4 _ _ _ _ b1d.nd rfl (Or.inl rfl) (a0y a9x hr a0r (@a0a _ _ _ _ _ (pv 2) a0c (by rfl))) (by rfl) (by first|exact .inl rfl|exact .inr rfl|assumption))
   (@a0b _ _ _ _ _ (a1w (b3p b7k hr a0r (pv 0) (@a0a _ _ _ _ _ (pv 1) (@a0a _ _ _ _ _ (pv 4) a0c (by rfl)) (by rfl))))
   (@a0f _ _ _ (@a0t _ _ _ _ (@a1m _ _ _ _ _ (@a0a _ _ _ _ _ (pv 4) (@a0a _ _ _ _ _ c2n a0c (by rfl)) (by rfl)))))))))),?_⟩
 fail"st";fail"go";refine a1y hx (T_M.cl .sg) (T_M.n_n .sg) rfl ?_;fail"go";refine⟨w,n,⟨0,xx,zz⟩,rfl,hw,⟨A1v _,oo.x,oo.z⟩,by omega,rfl,hz,fun H1 S1=>?_⟩;fail"go";refine a4r (d:=MK.sg) (S1 _ _ hx) rfl ?_;fail"go";refine⟨x,w,n,ds,xx,zz,b,rfl,⟨dx,a,as,S1 _ _ hx,S1 _ _ ha,hR.mono fun a d x=>Rt.same S1 x⟩,hds,hn,S1 _ _ hw,wr,fun H2 S2=>?_⟩;fail"go";refine⟨rfl,_,rfl,iteB (fun _=>?_) (fun z=>by simp at z)⟩;fail"go";rename_i pt hpt;exact q pt _ ((S1.trans S2).trans (a0e hpt _)) a0d
include T_D in theorem d5w (F:Fun K "words" "Deed.words" b5r f fd):a2n P w K mg base CX0 1 f fd ["self"] (c1g K a5s):=by
 refine F.ok d4u (by fail"ln") ?_;fail"fi";obtain⟨a,d,rfl,⟨dx,t,ha,ht,hl⟩,q⟩:=h;refine⟨_,(@a0f _ _ _ (@a0t _ _ _ _ (a0k op_catT (@a1m _ _ _ _ _ (@a0a _ _ _ _ _ (a3b (pv 0) rfl) a0c (by rfl))) (a3b (pv 0) rfl)))),?_⟩;have ht':SqT K H t (vn d.w):=SqT.of ht;have hn0:=d.k.n_pos
 have hne:vn d.w≠[]:=fun z=>by
  have e:=congrArg List.length z;rw[a6z] at e;simp at e;rw[e] at hl;simp at hl;omega
 fail"st";fail"go";refine a1y ha (T_D.cl _) (T_D.n_word _) (flds_word _ _) ?_;fail"go";rename_i p1 hp1;refine a1y (a0e hp1 _ _ _ ha) (T_D.cl _) (T_D.n_at _) (b0h _ _) ?_;refine st_catT (SqT.of a0d) ((a0e hp1 _).tup ht') (by simp) hne (by rw[a6z];show 1+_<=_;omega) fun p2 hp2=>?_;exact q _ _ ((a0e hp1 _).trans (a0e hp2 _)) a0d
include a9z a5v a1a a5e a6q a4v b3y a0z in theorem d1k (F:Fun K "check_whole" "check_whole" a7h f fd):a2n P w K mg base CX0 6 f fd ["rows","n"] (b8v K):=by
 refine F.ok b2v (by fail"ln") ?_;fail"fi";obtain⟨l,n,as,rs,rfl,hl,hW,hC,lrn,hn,q⟩:=h;have hok:=hC.ok
 refine⟨_,(@a0b _ _ _ _ _ (@a2c _ _ _ _ _ _ _ _ (PW.pt (b1h (a4g (a3t (b6w rfl a1a (pv 0) a4v a8y))) (b0y (@a0v _ _ _ _ _ _ _ _ c5k (a1x a4s rfl a5v A3k (@a0a _ _ _ _ _ (pv 0) a0c (by rfl))) (pv 1) (a1d _))))) (@a0f _ _ _ a2h) a0x)
   (@a0b _ _ _ _ _ (@a2c _ _ _ _ _ _ _ _ (a4g (a3t (a1x (a7p rfl) rfl a9z a9w (@a0a _ _ _ _ _ (a3d (sc:=a0g a7h) rfl (by fail"k5") (by show ("row":Str)∉(["rows","n"]:List Str);decide +kernel) (by show (".0":Str)∉(["rows","n"]:List Str);decide +kernel) b2v.nd rfl (a1q (pv 0)) (fun _ _ _ _=>a2q) (fun _ _ _ _=>(a0y b3y hr a0r (@a0a _ _ _ _ _ (pv 0) (@a0a _ _ _ _ _ (pv 2) a0c (by rfl)) (by rfl))))) a0c (by rfl))))) (@a0f _ _ _ a2h) a0x)
   (@a0b _ _ _ _ _ (@a2c _ _ _ _ _ _ _ _ (a4g (a3t (a0y a5e hr a0r (@a0a _ _ _ _ _ (pv 0) a0c (by rfl))))) (@a0f _ _ _ a2h) a0x)
   (@a0f _ _ _ (@a2c _ _ _ _ _ _ _ _ (a4g (a3t (a0y a6q hr a0r (@a0a _ _ _ _ _ (a3d (sc:=a0g a7h) rfl (by fail"k5") (by show ("row":Str)∉(["rows","n"]:List Str);decide +kernel) (by show (".0":Str)∉(["rows","n"]:List Str);decide +kernel) b2v.nd rfl (a1q (pv 0)) (fun _ _ _ _=>a2q) (fun _ _ _ _=>(a0y a0z hr a0r (@a0a _ _ _ _ _ (pv 0) (@a0a _ _ _ _ _ (pv 2) a0c (by rfl)) (by rfl))))) a0c (by rfl))))) (@a0f _ _ _ a2h) a0x))))),?_⟩
 fail"st";fail"go";have lrs:as.length=rs.length:=hW.len;refine iteN (fun c=>(c (by rw[a0m];omega)).elim) (fun c=>?_);fail"go";refine a1z (fun P h=>⟨_,rfl,h⟩) (SqL.of hl) (fun i ys H'=>a1n H H'/\ys=(A1u i true).map V.bl) (by rw[a0m];omega) ⟨a1n.refl _,rfl⟩ ?_ ?_ ?_ ?_
 ·rintro i ys H' ⟨_,rfl⟩;rw[A0b,A4e];exact A0k _
 ·rintro i ys H' ⟨s,_⟩;exact SqL.of (s _ _ hl)
 ·rintro i x ys H' hx ⟨s,rfl⟩;obtain⟨a,ha,rfl⟩:=a1r hx;obtain⟨r,hr,hra⟩:=hW.get ha;fail"go";refine⟨a,n,r,rfl,Rt.same s hra,hok r (List.mem_of_getElem? hr),hn,fun H2 s2=>⟨s.trans s2,?_⟩⟩;rw[A5b,A0f];rfl
 ·rintro ys H1 ⟨s1,rfl⟩ p1 hp1;fail"go";refine c1y (SqL.of a0d) ?_;rw[c8m];have S1:=s1.trans (a0e hp1 (.lst ((A1u (a1c as).length true).map V.bl)));generalize upd H1 p1 (.lst ((A1u (a1c as).length true).map V.bl))=G1 at S1 ⊢;fail"go";refine⟨l,as,rs,rfl,S1 _ _ hl,hW.mono fun a d x=>Rt.same S1 x,by omega,fun H2 s2=>?_⟩;have S2:=S1.trans s2;rw[allB_true hC.com];have W2:a2a (Rt K H2) as rs:=hW.mono fun a d x=>Rt.same S2 x;fail"go";refine a1z (fun P h=>⟨_,rfl,h⟩) (SqL.of (S2 _ _ hl)) (fun i ys H'=>H'=H2/\ys=vn ((rs.take i).map (sn n))) (by rw[a0m];omega) ⟨rfl,rfl⟩ ?_ ?_ ?_ ?_
  ·rintro i ys H' ⟨_,rfl⟩;rw[a6z,A0b,A0q];omega
  ·rintro i ys H' ⟨rfl,_⟩;exact SqL.of (S2 _ _ hl)
  ·rintro i x ys H' hx ⟨rfl,rfl⟩;obtain⟨b,hb,rfl⟩:=a1r hx;obtain⟨r,hr,hrb⟩:=W2.get hb;have ok:=hok r (List.mem_of_getElem? hr);fail"go";refine⟨b,n,r,rfl,SqT.of hrb,ok.x,(ok.to40 hn).z,hn,rfl,?_⟩;rw[a0s hr,A0f,<- c2c];rfl
  ·rintro ys H' ⟨rfl,rfl⟩ p4 hp4;rw[a0m,lrs,A0t];have S4:=S2.trans (a0e hp4 (.lst (vn (rs.map (sn n)))));have f4:(upd H' p4 (.lst (vn (rs.map (sn n))))) p4=some (.lst (vn (rs.map (sn n)))):=a0d;generalize upd H' p4 (.lst (vn (rs.map (sn n))))=H4 at S4 f4 ⊢;fail"go";refine⟨p4,rs.map (sn n),rfl,f4,by rw[A0b];omega,fun H5 ss s5 ok hz=>?_⟩;have ce:=hC.all ok hz;rw[decide_eq_true ce];fail"go";exact q H5 (S4.trans s5) ⟨lrn,hC.com,ok.dep ce⟩
include T_D in theorem c7j (F:Fun K "undoing" "Deed.undoing" b2f f fd):a2n P w K mg base CX0 1 f fd ["self"] (b6v K a5s):=by
 refine F.ok c9x (by fail"ln") ?_;fail"fi";obtain⟨a,d,rfl,⟨dx,t,ha,ht,hl⟩,q⟩:=h;refine⟨_,(@a0f _ _ _ (@a0t _ _ _ _ (@a5c _ _ _ _ (@a0a _ _ _ _ _ (a0k op_catT (@a1m _ _ _ _ _ (@a0a _ _ _ _ _ (a3b (pv 0) rfl) a0c (by rfl))) (a3b (pv 0) rfl)) a0c (by rfl))))),?_⟩;have ht':SqT K H t (vn d.w):=SqT.of ht;have hn0:=d.k.n_pos
 have hne:vn d.w≠[]:=fun z=>by
  have e:=congrArg List.length z;rw[a6z] at e;simp at e;rw[e] at hl;simp at hl;omega
 fail"st";fail"go";refine a1y ha (T_D.cl _) (T_D.n_undoer _) (flds_undoer _ _) ?_;fail"go";rename_i p1 hp1;refine a1y (a0e hp1 _ _ _ ha) (T_D.cl _) (T_D.n_at _) (b0h _ _) ?_;refine st_catT (SqT.of a0d) ((a0e hp1 _).tup ht') (by simp) hne (by rw[a6z];show 1+_<=_;omega) fun p2 hp2=>?_;fail"go";rename_i p3 hp3;refine q p3 p2 _ (((a0e hp1 _).trans (a0e hp2 _)).trans (a0e hp3 _)) (((a0e hp1 _).trans (a0e hp2 _)).free hp3) a0d ?_;exact a0e hp3 _ _ _ a0d
include a7v a3r b4v in theorem ok_undone (F:Fun K "undone" "undone" c5u f fd):a2n P w K mg base CX0 5 f fd ["work"] (sp_undone K a5s):=by
 refine F.ok c0r (by fail"ln") ?_;fail"fi";obtain⟨l,n,as,ds,rfl,hl,hz,hds,hok,q⟩:=h
 refine⟨_,(@a0b _ _ _ _ _ (ps_setC (i:=1) rfl (Or.inl rfl) (sc:=a0g c5u) rfl (by fail"k5") (by show ("words":Str)∉(["work","deeds","told","deed"]:List Str);decide +kernel) (by show (".0":Str)∉(["work","deeds","told","deed"]:List Str);decide +kernel) c0r.nd rfl (a1q (pv 0)) (fun _ _ _ _=>a2q) (fun _ _ _ _=>(a0y a3r hr a0r (@a0a _ _ _ _ _ (pv 0) a0c (by rfl)))))
   (@a0b _ _ _ _ _ (@a0q _ _ 2 _ _ _ _ c0r.nd rfl (Or.inl rfl) (@a5c _ _ _ _ a0c) (by rfl) (by first|exact .inl rfl|exact .inr rfl|assumption))
   (@a0b _ _ _ _ _ (a4e A1d rfl (pi_rev rfl a7v (@a0a _ _ _ _ _ (pv 1) a0c (by rfl))) (a1g (i:=3) c0r.nd rfl (Or.inl rfl)) (@a0f _ _ _ (a1w (b8c A1j A6z A7a c8p (pv 2) (@a0a _ _ _ _ _ (c9q b4v hr a0r (pv 3)) a0c (by rfl))))))
   (@a0f _ _ _ (@a0t _ _ _ _ (pv 2)))))),?_⟩
 fail"st";fail"go";refine c3u (fun P h=>⟨_,rfl,h⟩) (SqL.of hl) (fun i ys H'=>a1n H H'/\∃bs,ys=a1c bs/\a2a (d6y a5s H') bs (ds.take i)) (by rw[a0m];omega) ⟨a1n.refl _,[],rfl,.nil⟩ ?_ ?_ ?_ ?_
 ·rintro i ys H' ⟨_,bs,rfl,hb⟩;rw[a0m,hb.len,A0q];omega
 ·rintro i ys H' ⟨hS,_⟩;exact SqL.of (hS _ _ hl)
 ·rintro i x ys H' hx ⟨hS,bs,rfl,hb⟩;obtain⟨a,ha,rfl⟩:=a1r hx;obtain⟨d,hd,hw⟩:=hds.get ha;have ok:=hok d (List.mem_of_getElem? hd);fail"go";refine⟨_,rfl,.inr ⟨a,d.k,_,rfl,(Wt.wd hw ok c0q).stay hS,fun _ pd d3 H3 hS3 hd3 hk3 hw3=>?_,fun z=>(z fun i hi=>(vn_rng ok i hi).1).elim⟩⟩;obtain rfl:d3=d:=dd_eq hk3 hw3;refine⟨hS.trans hS3,bs++[pd],by unfold a1c;rw[A0f];rfl,?_⟩;rw[a0s hd];exact(hb.mono fun a d h=>h.same hS3).snoc hd3
 ·rintro ys H' ⟨hS,bs,rfl,hb⟩ p hp;rw[a0m,hds.len,A0t] at hb;have hb1:=hb.mono fun a d (h:d6y a5s H' a d)=>h.same (a0e hp (.lst (a1c bs)));have hS1:=hS.trans (a0e hp (.lst (a1c bs)));have hp1:(upd H' p (.lst (a1c bs))) p=some (.lst (a1c bs)):=a0d;generalize upd H' p (.lst (a1c bs))=G at hb1 hS1 hp1 ⊢;fail"go";rename_i t ht
  have ht0:H t=none:=by
   cases e:H t with
   | none=>rfl
   | some o=>rw[hS1 _ _ e] at ht;cases ht
  have htp:p≠t:=a0j hp1 ht;refine c8e (fun P h=>⟨_,rfl,h⟩) (SqL.of (a0e ht _ _ _ hp1)) (fun i σ H2=>∃(u:Option V) (ts:List Addr),σ=[some (.ref l),some (.ref p),some (.ref t),u]/\H2 t=some (.lst (a1c ts))/\But t G H2/\a2a (Wt H2) ts ((undo ds).take i)) ⟨none,[],rfl,a0d,But.of (a0e ht _) (fun c o _ e=>e),.nil⟩ ?_ ?_ ?_
  ·rintro i σ H2 _ ⟨u,ts,_,_,hB,_⟩;exact SqL.of (hB _ _ htp hp1)
  ·rintro i x σ H2 hi hx ⟨u,ts,rfl,ht2,hB,hts⟩;have hx':(a1c bs.reverse)[i]? = some x:=by unfold a1c;rw[A8a];exact hx
   obtain⟨a,ha,rfl⟩:=a1r hx';obtain⟨d,hd,hda⟩:=hb1.rev.get ha;have hSG:a1n G H2:=fun c o e=>hB c o (a0j e ht) e;have hda2:=hda.same hSG;obtain⟨dx,tt,hd1,hd2,hd4⟩:=id hda2;have htl:SqL K H2 t (a1c ts):=SqL.of ht2;rw[a0m,hb.len] at hi;fail"go";refine a4r hd1 (c7u _ _ (by decide +kernel) (by decide +kernel) (by decide +kernel)) ?_;fail"go";refine⟨a,d,rfl,hda2,fun p3 t3 H3 hS3 hn3 h3 h4=>?_⟩;fail"go";have hlen:=hts.len;rw[A0q] at hlen;have hdl:=hds.len;refine⟨t,p3,_,_,rfl,rfl,hS3 _ _ ht2,h3,A3q (bigN (by rw[a0m];simp only[A3e];omega)),?_⟩;fail"go";have hBt:But t H3 (upd H3 t (.lst (a1c ts++[.ref t3]))):=But.upd;refine⟨_,ts++[t3],rfl,by rw[a0d];unfold a1c;rw[A0f];rfl,(But.then hB hS3).trans hBt,?_⟩
   have hu:(undo ds)[i]? = some d.inv:=by
    unfold undo;rw[<- A8a,List.getElem?_map,hd];rfl
   rw[a0s hu];refine(hts.mono fun a d w=>hBt.wt (hS3 _ _ ht2) (hS3 _ _ w)).snoc ?_;refine hBt.wt (hS3 _ _ ht2) ?_;show H3 t3=some (.tup (.str d.k.inv.word::vn d.w));rw[<- DK.undo_inv];exact h4
  ·rintro σ H2 ⟨u,ts,rfl,ht2,hB,hts⟩;fail"go";rw[a0m,hb.len,<- undo_len,A0t] at hts;exact q t H2 ts (But.same hS1 hB ht0) ht0 ht2 hts
include a4t a4q a1s in theorem ok_at_wires (F:Fun K "at_wires" "at_wires" c2z f fd):a2n P w K mg base CX0 1 f fd ["row","wires"] (c7z K):=by
 refine F.ok sc_at_wires (by fail"ln") ?_;fail"fi";obtain⟨a,r,w,rfl,ha,q⟩:=h;refine⟨_,(@a0f _ _ _ (@a0t _ _ _ _ (@a1m _ _ _ _ _ (@a0a _ _ _ _ _ (@a0u _ _ _ _ _ _ _ a0p (pv 0) (a1p a1s) (fun _ _=>rfl)) (@a0a _ _ _ _ _ (a0k a3f (@a0u _ _ _ _ _ _ _ a0p (pv 0) (a1p a4t) (fun _ _=>rfl)) (pv 1)) (@a0a _ _ _ _ _ (a0k a3f (@a0u _ _ _ _ _ _ _ a0p (pv 0) (a1p a4q) (fun _ _=>rfl)) (pv 1)) a0c (by rfl)) (by rfl)) (by rfl))))),?_⟩;fail"st";unfold Row.V at ha;fail"go";rename_i p hp;exact q p hp
include a7r in theorem ok_row_by (F:Fun K "row_by" "row_by" d3k f fd):a2n P w K mg base CX0 4 f fd ["deeds","row"] (sp_row_by K a5s):=by
 refine F.ok c0g (by fail"ln") ?_;fail"fi";obtain⟨l,b,ds,r,rfl,⟨as,hl,has⟩,hb,hw,q⟩:=h
 refine⟨_,(@a0b _ _ _ _ _ (@a0q _ _ 2 _ _ _ _ c0g.nd rfl (Or.inl rfl) (pv 1) (by rfl) (by first|exact .inl rfl|exact .inr rfl|assumption))
   (@a0b _ _ _ _ _ (a4e A1d rfl (a1q (pv 0)) (a1g (i:=3) c0g.nd rfl (Or.inl rfl)) (@a0f _ _ _ (@a0q _ _ 2 _ _ _ _ c0g.nd rfl (Or.inl rfl) (b3p a7r hr a0r (pv 3) (@a0a _ _ _ _ _ (pv 2) a0c (by rfl))) (by rfl) (by first|exact .inl rfl|exact .inr rfl|assumption))))
   (@a0f _ _ _ (@a0t _ _ _ _ (pv 2))))),?_⟩
 fail"st";fail"go";refine a4m (fun P h=>⟨_,rfl,h⟩) (SqL.of hl) (fun i σ H'=>∃(c:Addr) (u:Option V),σ=[some (.ref l),some (.ref b),some (.ref c),u]/\a1n H H'/\H' c=some (.tup (acts (ds.take i) r).V)) ⟨b,none,rfl,a1n.refl _,hb⟩ ?_ ?_ ?_
 ·rintro i σ H' _ ⟨c,u,_,hS,_⟩;exact SqL.of (hS _ _ hl)
 ·rintro i x σ H' hx ⟨c,u,rfl,hS,hc⟩;obtain⟨a,ha,rfl⟩:=a1r hx;obtain⟨d,hd,hda⟩:=has.get ha;have hda':=hda.same hS;obtain⟨dx,tt,hd1,hd2,hd4⟩:=id hda';fail"go";refine a4r hd1 (c7u _ _ (by decide +kernel) (by decide +kernel) (by decide +kernel)) ?_;fail"go";refine⟨a,c,d,acts (ds.take i) r,rfl,rfl,hda',hw d (List.mem_of_getElem? hd),SqT.of hc,fun p H2 hS2 hp2=>?_⟩;fail"go";refine⟨p,_,rfl,hS.trans hS2,?_⟩;rw[acts_take r hd];exact hp2
 ·rintro σ H' ⟨c,u,rfl,hS,hc⟩;fail"go";rw[a0m,has.len,A0t] at hc;exact q c H' hS hc
include b0x in theorem ok_deeds_in (F:Fun K "deeds_in" "deeds_in" b7n f fd):a2n P w K mg base CX0 6 f fd ["work","n"] (c9v K a5s):=by
 refine F.ok c8s (by fail"ln") ?_;fail"fi";obtain⟨l,n,as,ds,rfl,hl,hz,hds,hok,q⟩:=h;refine⟨_,(@a0f _ _ _ (@a0t _ _ _ _ (a3d (sc:=a0g b7n) rfl (by fail"k5") (by show ("words":Str)∉(["work","n"]:List Str);decide +kernel) (by show (".0":Str)∉(["work","n"]:List Str);decide +kernel) c8s.nd rfl (a1q (pv 0)) (fun _ _ _ _=>a2q) (fun _ _ _ _=>(a0y b0x hr a0r (@a0a _ _ _ _ _ (pv 0) (@a0a _ _ _ _ _ (pv 2) a0c (by rfl)) (by rfl))))))),?_⟩;fail"st";fail"go";refine a1z (fun P h=>⟨_,rfl,h⟩) (SqL.of hl) (fun i ys H'=>a1n H H'/\∃bs,ys=a1c bs/\a2a (d6y a5s H') bs (ds.take i)) (by rw[a0m];omega) ⟨a1n.refl _,[],rfl,.nil⟩ ?_ ?_ ?_ ?_
 ·rintro i ys H' ⟨_,bs,rfl,hb⟩;rw[a0m,hb.len,A0q];omega
 ·rintro i ys H' ⟨hS,_⟩;exact SqL.of (hS _ _ hl)
 ·rintro i x ys H' hx ⟨hS,bs,rfl,hb⟩;obtain⟨a,ha,rfl⟩:=a1r hx;obtain⟨d,hd,hw⟩:=hds.get ha;have ok:=hok d (List.mem_of_getElem? hd);fail"go";refine⟨_,n,rfl,.inr ⟨a,d.k,_,rfl,(Wt.wd hw ok c0q).stay hS,fun _ pd d3 H3 hS3 hd3 hk3 hw3=>?_,fun z=>(z (vn_rng ok)).elim⟩⟩;obtain rfl:d3=d:=dd_eq hk3 hw3;refine⟨hS.trans hS3,bs++[pd],by unfold a1c;rw[A0f];rfl,?_⟩;rw[a0s hd];exact(hb.mono fun a d h=>h.same hS3).snoc hd3
 ·rintro ys H' ⟨hS,bs,rfl,hb⟩ p hp;rw[a0m,hds.len,A0t] at hb;exact q p _ (hS.trans (a0e hp _)) ⟨bs,a0d,hb.mono fun a d h=>h.same (a0e hp _)⟩
include a4t a4q a1s a1f a8j in theorem c4j (F:Fun K "work_to_one_z" "work_to_one_z" b0g f fd):a2n P w K mg base CX0 3 f fd ["row"] (b4z K):=by
 refine F.ok a4u (by fail"ln") ?_;fail"fi";obtain⟨a,n,l,rfl,ha,ok,hn,h0,q⟩:=h
 refine⟨_,(@a0b _ _ _ _ _ (@a0q _ _ 1 _ _ _ _ a4u.nd rfl (Or.inl rfl) (a0y a8j hr a0r (@a0a _ _ _ _ _ (a0k c3e (@a0u _ _ _ _ _ _ _ a0p (pv 0) (a1p a4t) (fun _ _=>rfl)) (@a0u _ _ _ _ _ _ _ a0p (pv 0) (a1p a4q) (fun _ _=>rfl))) a0c (by rfl))) (by rfl) (by first|exact .inl rfl|exact .inr rfl|assumption))
   (@a0b _ _ _ _ _ (@a0q _ _ 2 _ _ _ _ a4u.nd rfl (Or.inl rfl) (@a5c _ _ _ _ a0c) (by rfl) (by first|exact .inl rfl|exact .inr rfl|assumption))
   (@a0b _ _ _ _ _ (a4e A1d rfl (a1q (pv 1)) (a1g (i:=3) a4u.nd rfl (Or.inl rfl)) (@a0f _ _ _ (@a2c _ _ _ _ _ _ _ _ (@a0v _ _ _ _ _ _ _ _ a5t (a0y a1f hr a0r (@a0a _ _ _ _ _ (@a0u _ _ _ _ _ _ _ a0p (pv 0) (a1p a4t) (fun _ _=>rfl)) (@a0a _ _ _ _ _ (pv 3) a0c (by rfl)) (by rfl))) a0h (a1d _)) (@a0b _ _ _ _ _ (@a2c _ _ _ _ _ _ _ _ (@a0v _ _ _ _ _ _ _ _ a5t (a0y a1f hr a0r (@a0a _ _ _ _ _ (@a0u _ _ _ _ _ _ _ a0p (pv 0) (a1p a4q) (fun _ _=>rfl)) (@a0a _ _ _ _ _ (pv 3) a0c (by rfl)) (by rfl))) a0h (a1d _)) (@a0f _ _ _ (a1w (b8c A1j A1r A1s a4d (pv 2) (@a0a _ _ _ _ _ (@a1m _ _ _ _ _ (@a0a _ _ _ _ _ a1h (@a0a _ _ _ _ _ (pv 3) a0c (by rfl)) (by rfl))) a0c (by rfl))))) a0x)
   (@a0f _ _ _ (a1w (b8c A1j A1r A1s a4d (pv 2) (@a0a _ _ _ _ _ (@a1m _ _ _ _ _ (@a0a _ _ _ _ _ a1h (@a0a _ _ _ _ _ (pv 3) a0c (by rfl)) (by rfl))) a0c (by rfl)))))) a0x)))
   (@a0b _ _ _ _ _ (a4e A1d rfl (a1q (b1u c3m (pv 1) (b4g a0h) b8x)) (a1g (i:=3) a4u.nd rfl (Or.inl rfl)) (@a0f _ _ _ (a1w (b8c A1j A1r A1s a4d (pv 2) (@a0a _ _ _ _ _ (@a1m _ _ _ _ _ (@a0a _ _ _ _ _ a1h (@a0a _ _ _ _ _ (pv 3) (@a0a _ _ _ _ _ (@a0u _ _ _ _ _ _ _ b3u (pv 1) a0h (fun _ _=>rfl)) a0c (by rfl)) (by rfl)) (by rfl))) a0c (by rfl))))))
   (@a0b _ _ _ _ _ (@a2c _ _ _ _ _ _ _ _ (@a0v _ _ _ _ _ _ _ _ a5t (@a0u _ _ _ _ _ _ _ a0p (pv 0) (a1p a1s) (fun _ _=>rfl)) a0h (a1d _)) (@a0f _ _ _ (a1w (b8c A1j A1r A1s a4d (pv 2) (@a0a _ _ _ _ _ (@a1m _ _ _ _ _ (@a0a _ _ _ _ _ a1h (@a0a _ _ _ _ _ (@a0u _ _ _ _ _ _ _ b3u (pv 1) a0h (fun _ _=>rfl)) a0c (by rfl)) (by rfl))) a0c (by rfl))))) a0x)
   (@a0f _ _ _ (@a0t _ _ _ _ (pv 2)))))))),?_⟩
 fail"st";unfold Row.V at ha;fail"go";have hlt:l.x|||l.z<2^n:=A3g ok.x ok.z;refine⟨l.x|||l.z,rfl,A0c hlt (A0g (by decide) (by omega)),fun pa hpa=>?_⟩;generalize hks:pls (l.x|||l.z)=ks at q ⊢;have S1:=a0e hpa (.lst (vn ks));have f1:(upd H pa (.lst (vn ks))) pa=some (.lst (vn ks)):=a0d;generalize upd H pa (.lst (vn ks))=G1 at S1 f1 ⊢;have ha1:=S1.tup ha;fail"go";rename_i pt hpt;have S2:=a0e hpt (.lst []);have f2:(upd G1 pt (.lst [])) pt=some (.lst (a1c [])):=a0d;generalize upd G1 pt (.lst [])=G2 at S2 f2 ⊢
 have lks:ks.length<=40:=by
  rw[<- hks];exact A1z (pls_len hlt) hn
 refine a4m (fun P h=>⟨_,rfl,h⟩) (SqL.of (S2 _ _ f1)) (fun i σ H'=>∃(u:Option V) (bs:List Addr),σ=[some (.ref a),some (.ref pa),some (.ref pt),u]/\a1n G1 H'/\H' pt=some (.lst (a1c bs))/\a2a (Wt H') bs (w1s l (ks.take i))) ⟨_,[],rfl,S2,f2,.nil⟩ ?_ ?_ ?_
 ·rintro i σ H' _ ⟨_,bs,rfl,hS,_⟩;exact SqL.of (hS _ _ f1)
 ·rintro i y σ H' hy ⟨u,bs,rfl,hS,hf,hB⟩;obtain⟨k,rfl,hk⟩:=vn_at hy;have sa:SqT K H' a [.int (l.m:Int),.int (l.x:Int),.int (l.z:Int)]:=hS.tup ha1;have lb:=w1s_len l (ks.take i);rw[A0q] at lb;have lbs:bs.length<=80:=by rw[hB.len];omega
  have sl:SqL K H' pt (a1c bs):=SqL.of hf;have hle:(a1c bs).length<=900:=by rw[a0m];omega
  fail"go";refine⟨l.x,k,rfl,?_⟩;rw[a0s hk,w1s_snoc];fail"go";rw[bI1]
  cases ex:l.x.testBit k with
  | false=>
   fail"go";refine⟨_,bs,rfl,hS,hf,?_⟩;rw[show w1 l k=[] from if_neg (by rw[ex];decide),A3d];exact hB
  | true=>
   fail"go";refine⟨l.z,k,rfl,?_⟩;fail"go";rw[bI1]
   cases ez:l.z.testBit k with
   | true=>
    fail"go";rename_i t1 h1 t2 h2;obtain⟨s3,hf3,hB3⟩:=wd_app (d:=⟨.back,[k]⟩) hpt hS hf hB h1 a0d;rw[show a1c bs++[V.ref t1]=a1c (bs++[t1]) from a2f _ _] at h2 s3 hf3 hB3 ⊢;obtain⟨s4,hf4,hB4⟩:=wd_app (d:=⟨.both,[k]⟩) hpt s3 hf3 hB3 h2 a0d;refine⟨_,bs++[t1]++[t2],rfl,s4,hf4,?_⟩;rw[show w1 l k=[⟨.back,[k]⟩,⟨.both,[k]⟩] from (if_pos ex).trans (if_pos ez),show w1s l (ks.take i)++[⟨.back,[k]⟩,⟨.both,[k]⟩]=w1s l (ks.take i)++[⟨.back,[k]⟩]++[⟨.both,[k]⟩] by simp];exact hB4
   | false=>
    fail"go";rename_i t1 h1;obtain⟨s3,hf3,hB3⟩:=wd_app (d:=⟨.both,[k]⟩) hpt hS hf hB h1 a0d;refine⟨_,bs++[t1],rfl,s3,hf3,?_⟩;rw[show w1 l k=[⟨.both,[k]⟩] from (if_pos ex).trans (if_neg (by rw[ez];decide))];exact hB3
 ·rintro σ H' ⟨u,bs,rfl,hS,hf,hB⟩;rw[a6z,A0t] at hB;obtain⟨fw,ks',eks⟩:=pls_cons h0;rw[hks] at eks;subst eks;have f1':=hS _ _ f1;have slp:SqL K H' pa (.int (fw:Int)::vn ks'):=SqL.of f1';have lb1:=w1s_len l (fw::ks');rw[A1c] at lb1 lks;fail"go";refine b2q ?_;fail"go";rename_i p5 hp5;have ec:c7g (V.int (fw:Int)::vn ks') (some 1) none=vn ks':=cut1 _ _;rw[ec];have S5:=a0e hp5 (.lst (vn ks'));have f5:(upd H' p5 (.lst (vn ks'))) p5=some (.lst (vn ks')):=a0d;have hf5:=S5 _ _ hf;have hB5:=hB.mono fun a d (x:Wt H' a d)=>S5 _ _ x;have np5:pt≠p5:=a0j hf hp5;have S15:=hS.trans S5;generalize upd H' p5 (.lst (vn ks'))=G5 at S5 f5 hf5 hB5 S15 ⊢;refine b1s (SqL.of f5) (fun i σ H2=>∃(u:Option V) (cs:List Addr),σ=[some (.ref a),some (.ref pa),some (.ref pt),u]/\a1n G1 H2/\But pt G5 H2/\H2 pt=some (.lst (a1c cs))/\a2a (Wt H2) cs (w1s l (fw::ks')++w2s fw (ks'.take i))) ⟨_,bs,rfl,S15,fun _ _ _ e=>e,hf5,by rw[show w2s fw (ks'.take 0)=[] from rfl,A3d];exact hB5⟩ ?_ ?_ ?_
  ·rintro i σ H2 _ ⟨_,cs,rfl,_,hb,_⟩;exact SqL.of (hb _ _ (A4m np5) f5)
  ·rintro i y σ H2 hy ⟨u,cs,rfl,s2,hb,hf2,hB2⟩;obtain⟨k,rfl,hk⟩:=vn_at hy;have slp2:SqL K H2 pa (.int (fw:Int)::vn ks'):=SqL.of (s2 _ _ f1)
   have lcs:cs.length<=200:=by
    rw[hB2.len,A0j,w2s_len,A0q];omega
   have sl:SqL K H2 pt (a1c cs):=SqL.of hf2;have hle:(a1c cs).length<=900:=by rw[a0m];omega
   fail"go";refine c8r slp2 (b9u (j:=0) rfl) ?_;fail"go";rename_i t1 h1;have n1:t1≠pt:=A4m (a0j hf2 h1);obtain⟨s3,hf3,hB3⟩:=wd_app (d:=⟨.wher,[k,fw]⟩) hpt s2 hf2 hB2 h1 a0d;refine⟨_,cs++[t1],rfl,s3,?_,hf3,?_⟩
   ·intro q o hq e;rw[a0w hq,a0w (a0j (hb q o hq e) h1)];exact hb q o hq e
   ·rw[a0s hk,w2s_snoc,<- A6m];exact hB3
  ·rintro σ H2 ⟨u,cs,rfl,s2,hb,hf2,hB2⟩;rw[a6z,A0t] at hB2;have sa2:SqT K H2 a [.int (l.m:Int),.int (l.x:Int),.int (l.z:Int)]:=s2.tup ha1;have slp2:SqL K H2 pa (.int (fw:Int)::vn ks'):=SqL.of (s2 _ _ f1)
   have lcs:cs.length<=200:=by
    rw[hB2.len,A0j,w2s_len];omega
   have sl:SqL K H2 pt (a1c cs):=SqL.of hf2;have hle:(a1c cs).length<=900:=by rw[a0m];omega
   fail"go";have Sf:=S1.trans s2
   have em:decide ((l.m:Int)=1)=decide (l.m=1):=by
    by_cases c:l.m=1
    ·rw[decide_eq_true c,decide_eq_true (by omega)]
    ·rw[decide_eq_false c,decide_eq_false (by omega)]
   rw[em]
   by_cases c:l.m=1
   ·rw[decide_eq_true c];fail"go";refine c8r slp2 (b9u (j:=0) rfl) ?_;fail"go";rename_i t1 h1;obtain⟨s3,hf3,hB3⟩:=wd_app (d:=⟨.over,[fw]⟩) hpt s2 hf2 hB2 h1 a0d;refine q pt _ (cs++[t1]) (S1.trans s3) hf3 ?_;rw[wk1,if_pos c];exact hB3
   ·rw[decide_eq_false c];fail"go";refine q pt H2 cs Sf hf2 ?_;rw[wk1,if_neg c,A3d];exact hB2
include a5j a4t a4q c0b a4j c6j b7x c5y b7t a7a in theorem ok_made (F:Fun K "made" "made" s_made f fd):a2n P w K mg base CX0 7 f fd ["rows","n"] (sp_made K):=by
 refine F.ok b9j (by fail"ln") ?_;fail"fi";obtain⟨l,n,as,rs,rfl,hl,hW,hC,lrn,hn,q⟩:=h;have hok:=hC.ok
 refine⟨_,(@a0b _ _ _ _ _ (a1w (a0y a4j hr a0r (@a0a _ _ _ _ _ (pv 0) (@a0a _ _ _ _ _ (pv 1) a0c (by rfl)) (by rfl))))
   (@a0b _ _ _ _ _ (@a0q _ _ 2 _ _ _ _ b9j.nd rfl (Or.inl rfl) (@a5c _ _ _ _ a0c) (by rfl) (by first|exact .inl rfl|exact .inr rfl|assumption))
   (@a0b _ _ _ _ _ (@a0q _ _ 3 _ _ _ _ b9j.nd rfl (Or.inl rfl) (a0k b3n (a0k a3e a0h (pv 1)) a0h) (by rfl) (by first|exact .inl rfl|exact .inr rfl|assumption))
   (@a0b _ _ _ _ _ (a4e A1d rfl (a1q (pv 0)) (a1g (i:=4) b9j.nd rfl (Or.inl rfl)) (@a0b _ _ _ _ _ (@a0q _ _ 5 _ _ _ _ b9j.nd rfl (Or.inl rfl) (a0y b7x hr a0r (@a0a _ _ _ _ _ (a0y c5y hr a0r (@a0a _ _ _ _ _ (pv 2) (@a0a _ _ _ _ _ (pv 4) a0c (by rfl)) (by rfl))) (@a0a _ _ _ _ _ (pv 3) a0c (by rfl)) (by rfl))) (by rfl) (by first|exact .inl rfl|exact .inr rfl|assumption))
   (@a0b _ _ _ _ _ (a1w (b8c A1j A6z A7a c8p (pv 2) (@a0a _ _ _ _ _ (a0y b7t hr a0r (@a0a _ _ _ _ _ (a0y a7a hr a0r (@a0a _ _ _ _ _ (pv 5) a0c (by rfl))) (@a0a _ _ _ _ _ (pv 1) a0c (by rfl)) (by rfl))) a0c (by rfl))))
   (@a0f _ _ _ (@a0q _ _ 3 _ _ _ _ b9j.nd rfl (Or.inl rfl) (a0k a1t (pv 3) (a0y a5j hr a0r (@a0a _ _ _ _ _ (a0k c3e (@a0u _ _ _ _ _ _ _ a0p (pv 5) (a1p a4t) (fun _ _=>rfl)) (@a0u _ _ _ _ _ _ _ a0p (pv 5) (a1p a4q) (fun _ _=>rfl))) a0c (by rfl)))) (by rfl) (by first|exact .inl rfl|exact .inr rfl|assumption))))))
   (@a0f _ _ _ (@a0t _ _ _ _ (a0y c6j hr a0r (@a0a _ _ _ _ _ (a3d (sc:=a0g s_made) rfl (by fail"k5") (by show ("deed":Str)∉(["rows","n","deeds","free","row","left"]:List Str);decide +kernel) (by show (".0":Str)∉(["rows","n","deeds","free","row","left"]:List Str);decide +kernel) b9j.nd rfl (a1q (pv 2)) (fun _ _ _ _=>a2q) (fun _ _ _ _=>(c9q c0b hr a0r (pv 0)))) a0c (by rfl))))))))),?_⟩
 fail"st";fail"go";refine⟨l,n,as,rs,rfl,hl,hW,hC,lrn,hn,fun H1 s1 gd=>?_⟩;have lrs:as.length=rs.length:=hW.len;have hl1:=s1 _ _ hl;have hW1:a2a (Rt K H1) as rs:=hW.mono fun a d x=>Rt.same s1 x;fail"go";rename_i pd hpd
 have e0:((2^n:Nat):Int)-1=((2^n-1:Nat):Int):=by
  have:=A0x n;omega
 rw[e0];refine a4m (fun P h=>⟨_,rfl,h⟩) ((a0e hpd _).seq (SqL.of hl1)) (fun i σ H'=>∃(u v:Option V) (bs:List Addr) (ds:List Dd) (us:List Nat) (fr:Nat),σ=[some (.ref l),some (.int n),some (.ref pd),some (.int (fr:Int)),u,v]/\a1n H1 H'/\H' pd=some (.lst (a1c bs))/\a2a (d6y a5s H') bs ds/\Mks n rs i ds us fr) ⟨none,none,[],[],[],_,rfl,a0e hpd _,a0d,.nil,Mks.start n rs⟩ ?_ ?_ ?_
 ·rintro i σ H' _ ⟨_,_,_,_,_,_,_,hS,_⟩;exact SqL.of (hS _ _ hl1)
 ·rintro i y σ H' hy ⟨u,v,bs,ds,us,fr,rfl,hS,hf,hB,mk⟩;obtain⟨b,hb,rfl⟩:=a1r hy;obtain⟨r,hr,hrb⟩:=hW1.get hb
  have hil:i<n:=by
   have:=(List.getElem?_eq_some_iff.1 hr).1;have:=gd.1;omega
  obtain⟨okl,nz⟩:=mk.left gd hok hr;have sz:=mk.sz;have sz2:=trs_mono (n:=n) (show i<=n by omega);have sz3:=(trs_le hn).1;fail"go";refine⟨pd,b,ds,r,rfl,⟨bs,hf,hB⟩,Rt.same hS hrb,fun d hd x hx=>?_,fun p2 H2 s2 hp2=>?_⟩
  ·have:=(mk.done.dok d hd).lt x hx;omega
  fail"go";refine⟨p2,acts ds r,fr,rfl,SqT.of hp2,fun p3 hp3=>?_⟩;generalize hle:(⟨(acts ds r).m,(acts ds r).x&&&fr,(acts ds r).z&&&fr⟩:Row)=lf at okl ⊢;have nz':(lf.x|||lf.z)≠0:=by rw[<- hle];exact nz
  have S3:=s2.trans (a0e hp3 (.tup lf.V));have f3:(upd H2 p3 (.tup lf.V)) p3=some (.tup lf.V):=a0d;generalize upd H2 p3 (.tup lf.V)=H3 at S3 f3 ⊢;fail"go";refine⟨p3,n,lf,rfl,SqT.of f3,okl,hn,nz',fun p4 H4 cs s4 hp4 hC4=>?_⟩;obtain⟨fw,ks,eks⟩:=pls_cons nz';have ndk:=pls_nd (lf.x|||lf.z);rw[eks] at hC4 ndk;have hkk:∀k,k∈fw::ks ↔ (lf.x|||lf.z).testBit k=true:=fun k=>by rw[<- eks];exact d5f
  have mk2:=mk.more gd hok hr hle.symm ndk hkk;have lwk:=wk1_len lf fw ks;have lks:(fw::ks).length<=n:=by rw[<- eks];exact pls_len (A3g okl.x okl.z)
  have okw:∀d∈wk1 lf (fw::ks),d.Ok n:=fun d hd=>mk2.done.dok d (A0v _ hd);generalize wk1 lf (fw::ks)=wk at hC4 mk2 lwk okw;have lcs:cs.length=wk.length:=hC4.len;fail"go";refine⟨p4,n,cs,wk,rfl,hp4,by omega,hC4,okw,fun p5 H5 s5 hD5=>?_⟩;obtain⟨es,hp5,hE5⟩:=hD5;have S5:=S3.trans (s4.trans s5);have hf5:=S5 _ _ hf;have lbs:bs.length=ds.length:=hB.len;have les:es.length=wk.length:=hE5.len;fail"go";refine st_extendB hf5 hp5 (by rw[a0m,a0m];omega) ?_;have B6:But pd H5 (upd H5 pd (.lst (a1c bs++a1c es))):=But.upd;have f6:(upd H5 pd (.lst (a1c bs++a1c es))) pd=some (.lst (a1c (bs++es))):=by rw[a0d];unfold a1c;rw[A0f]
  have f63:(upd H5 pd (.lst (a1c bs++a1c es))) p3=some (.tup lf.V):=B6 _ _ (a8x ((s4.trans s5) _ _ f3) hf5 (by intro z;cases z)) ((s4.trans s5) _ _ f3);generalize upd H5 pd (.lst (a1c bs++a1c es))=H6 at B6 f6 f63 ⊢;have sq3:SqT K H6 p3 [.int (lf.m:Int),.int (lf.x:Int),.int (lf.z:Int)]:=SqT.of f63;fail"go";refine⟨lf.x|||lf.z,rfl,Nat.pos_of_ne_zero nz',fun j hj lo=>?_⟩;obtain rfl:j=fw:=pls_low eks hj lo;fail"go";refine⟨_,_,bs++es,ds++wk,us++[j],_,rfl,But.same (hS.trans S5) B6 hpd,f6,?_,mk2⟩;exact((hB.mono fun a d (x:d6y a5s H' a d)=>x.same S5).app hE5).mono fun a d (x:d6y a5s H5 a d)=>B6.dd hf5 x
 ·rintro σ H' ⟨u,v,bs,ds,us,fr,rfl,hS,hf,hB,mk⟩;rw[a0m,lrs,gd.1] at mk;have sz:=mk.sz;obtain⟨sz3,sz4⟩:=trs_le hn;have lbs:bs.length=ds.length:=hB.len;have em:rs.take n=rs:=by rw[<- gd.1,A0t]
  have mk1:=mk.done;rw[em] at mk1;have SS:=s1.trans hS;fail"go";refine c3u (fun P h=>⟨_,rfl,h⟩) (SqL.of hf) (fun i ys H2=>a1n H' H2/\∃cs,ys=a1c cs/\a2a (Wt H2) cs (ds.take i)) (by rw[a0m];omega) ⟨a1n.refl _,[],rfl,.nil⟩ ?_ ?_ ?_ ?_
  ·rintro i ys H2 ⟨_,cs,rfl,e⟩;rw[a0m,e.len,A0q];omega
  ·rintro i ys H2 ⟨s,_⟩;exact SqL.of (s _ _ hf)
  ·rintro i x ys H2 hx ⟨s,cs,rfl,e⟩;obtain⟨a,ha,rfl⟩:=a1r hx;obtain⟨d,hd,hda⟩:=hB.get ha;have hda2:=hda.same s;obtain⟨dx,dt,hd1,hd2,hd3⟩:=id hda2;fail"go";refine a4r hd1 (c7u _ _ (by decide +kernel) (by decide +kernel) (by decide +kernel)) ?_;fail"go";refine⟨a,d,rfl,hda2,fun p2 H3 s3 h3=>?_⟩;refine⟨s.trans s3,cs++[p2],a2f _ _,?_⟩;rw[a0s hd];exact(e.mono fun a d x=>s3 _ _ x).snoc h3
  ·rintro ys H2 ⟨s,cs,rfl,e⟩ p kp;rw[a0m,lbs,A0t] at e;have S2:=s.trans (a0e kp (.lst (a1c cs)));have e2:=e.mono fun a d (x:Wt H2 a d)=>a0e kp (.lst (a1c cs)) _ _ x;have f2:(upd H2 p (.lst (a1c cs))) p=some (.lst (a1c cs)):=a0d;generalize upd H2 p (.lst (a1c cs))=G2 at S2 e2 f2 ⊢;have lcs:cs.length=ds.length:=e.len;fail"go";refine⟨p,n,cs,ds,rfl,f2,by omega,e2,mk1.dok,fun p3 H3 bs3 s3 _ f3 w3=>?_⟩;refine q p3 H3 bs3 (undo ds) (SS.trans (S2.trans s3)) f3 w3 (d3p mk1.dok) (fun z=>by have:=sz4 z;rw[undo_len];omega) fun r hr=>?_;rw[undo_undo];exact⟨mk1.m r hr,mk1.x r hr⟩
include a0z a1f in theorem ok_has_sign (F:Fun K "has_sign" "has_sign" c3a f fd):a2n P w K mg base CX0 2 f fd ["row","sign","n"] (c8j K):=by
 refine F.ok sc_has_sign (by fail"ln") ?_;fail"fi";obtain⟨a,s,n,r,rfl,ha,ok,hn,q⟩:=h;refine⟨_,(@a0f _ _ _ (@a0t _ _ _ _ (b2j a5t (a0y a1f hr a0r (@a0a _ _ _ _ _ (a0y a0z hr a0r (@a0a _ _ _ _ _ (pv 0) (@a0a _ _ _ _ _ (pv 2) a0c (by rfl)) (by rfl))) (@a0a _ _ _ _ _ (pv 1) a0c (by rfl)) (by rfl))) a0h (a1d _)))),?_⟩;fail"go";refine⟨a,n,r,rfl,ha,ok.x,A0c ok.z (A0g (by decide) hn),hn,?_⟩;fail"go";refine⟨_,s,rfl,?_⟩;fail"go";have e:∀b:Bool,decide (bI b=1)=b:=by decide
 rw[e];exact q
include b4h a7y in theorem c8u (F:Fun K "without_sign" "without_sign" a8d f fd):a2n P w K mg base CX0 4 f fd ["rows","sign","leading","n"] (b6z K):=by
 refine F.ok b5n (by fail"ln") ?_;fail"fi";obtain⟨l,a,k,n,as,rs,g,rfl,hl,hW,hz,ha,hok,hn,q⟩:=h;refine⟨_,(@a0f _ _ _ (@a0t _ _ _ _ (a3d (sc:=a0g a8d) rfl (by fail"k5") (by show ("row":Str)∉(["rows","sign","leading","n"]:List Str);decide +kernel) (by show (".0":Str)∉(["rows","sign","leading","n"]:List Str);decide +kernel) b5n.nd rfl (a1q (pv 0)) (fun _ _ _ _=>a2q) (fun _ _ _ _=>(c6k (a3t (a0y a7y hr a0r (@a0a _ _ _ _ _ (pv 0) (@a0a _ _ _ _ _ (pv 2) (@a0a _ _ _ _ _ (pv 4) a0c (by rfl)) (by rfl)) (by rfl)))) (a0y b4h hr a0r (@a0a _ _ _ _ _ (pv 0) (@a0a _ _ _ _ _ (pv 3) a0c (by rfl)) (by rfl))) (pv 0)))))),?_⟩;fail"st";fail"go";refine a1z (fun P h=>⟨_,rfl,h⟩) (SqL.of hl) (fun i ys H'=>a1n H H'/\∃bs,ys=a1c bs/\a2a (Rt K H') bs ((rs.take i).map (stp n k g))) (by rw[a0m];omega) ⟨a1n.refl _,[],rfl,.nil⟩ ?_ ?_ ?_ ?_
 ·rintro i ys H' ⟨_,bs,rfl,e⟩;rw[a0m,e.len,A0b,A0q];omega
 ·rintro i ys H' ⟨s,_⟩;exact SqL.of (s _ _ hl)
 ·rintro i x ys H' hx ⟨s,bs,rfl,e⟩;obtain⟨b,hb,rfl⟩:=a1r hx;obtain⟨r,hr,hrb⟩:=hW.get hb;obtain⟨ok,hc⟩:=hok r (List.mem_of_getElem? hr);have hb':=SqT.of (K:=K) (Rt.same s hrb);fail"go";refine⟨b,k,n,r,rfl,hb',ok,hn,?_⟩;fail"go"
  by_cases c:(sn n r).testBit k=true
  ·rw[if_pos c];fail"go";refine⟨b,a,r,g,rfl,hb',SqT.of (Rt.same s ha),fun _ p hp=>?_,fun z=>(z ((b1n _ _).1 hc)).elim⟩;refine⟨s.trans (a0e hp _),bs++[p],a2f _ _,?_⟩;rw[a0s hr,A0f];refine(e.mono fun a d (x:Rt K H' a d)=>Rt.same (a0e hp _) x).snoc ?_;show Rt K _ p (stp n k g r);unfold stp;rw[if_pos c];exact a0d
  ·rw[if_neg c];fail"go";refine⟨s,bs++[b],a2f _ _,?_⟩;rw[a0s hr,A0f];refine e.snoc ?_;show Rt K _ b (stp n k g r);unfold stp;rw[if_neg c];exact Rt.same s hrb
 ·rintro ys H' ⟨s,bs,rfl,e⟩ p hp;rw[a0m,hW.len,A0t] at e;exact q p _ bs (s.trans (a0e hp _)) (none_of s hp) a0d (e.mono fun a d (x:Rt K H' a d)=>Rt.same (a0e hp _) x)
include a4v a3q a4j a7y a6b in theorem ok_telling (F:Fun K "telling" "telling" c0z f fd):a2n P w K mg base CX0 7 f fd ["rows","n"] (d2q K):=by
 refine F.ok a6w (by fail"ln") ?_;fail"fi";obtain⟨l,n,as,ds,rfl,hl,hW,hds,hn,q⟩:=h;have hM:Wl ds n (pln ds n):=Wl.plain hn hds;have hC:=pln_cd hn hds;generalize pln ds n=rs at hW hM hC
 refine⟨_,(@a0b _ _ _ _ _ (a1w (a0y a4j hr a0r (@a0a _ _ _ _ _ (pv 0) (@a0a _ _ _ _ _ (pv 1) a0c (by rfl)) (by rfl))))
   (@a0b _ _ _ _ _ (@a0q _ _ 2 _ _ _ _ a6w.nd rfl (Or.inl rfl) (a9a b0d rfl a4v a8y (@a0a _ _ _ _ _ (pv 0) a0c (by rfl))) (by rfl) (by first|exact .inl rfl|exact .inr rfl|assumption))
   (@a0b _ _ _ _ _ (@a0q _ _ 3 _ _ _ _ a6w.nd rfl (Or.inl rfl) (@a5c _ _ _ _ a0c) (by rfl) (by first|exact .inl rfl|exact .inr rfl|assumption))
   (@a0b _ _ _ _ _ (a4e A1d rfl (b1a rfl a3q (@a0a _ _ _ _ _ (a0k op_mul a0h (pv 1)) a0c (by rfl))) (a1g (i:=4) a6w.nd rfl (Or.inr rfl)) (@a0b _ _ _ _ _ (ps_setC (i:=5) rfl (Or.inl rfl) (sc:=a0g c0z) rfl (by fail"k5") (by show ("row":Str)∉(["rows","n","rest","told","sign","leading","first"]:List Str);decide +kernel) (by show (".0":Str)∉(["rows","n","rest","told","sign","leading","first"]:List Str);decide +kernel) a6w.nd rfl (a1q (pv 2)) (fun _ _ _ _=>(pif_one (a3t (a0y a7y hr a0r (@a0a _ _ _ _ _ (pv 0) (@a0a _ _ _ _ _ (pv 5) (@a0a _ _ _ _ _ (pv 2) a0c (by rfl)) (by rfl)) (by rfl)))))) (fun _ _ _ _=>(pv 0)))
   (@a0f _ _ _ (@a2c _ _ _ _ _ _ _ _ (@a0v _ _ _ _ _ _ _ _ (op_neD (b9q hr)) (pv 5) (@a5c _ _ _ _ a0c) (a1d _)) (@a0b _ _ _ _ _ (@a0q _ _ 6 _ _ _ _ a6w.nd rfl (Or.inl rfl) (@a0u _ _ _ _ _ _ _ b3u (pv 5) a0h (fun _ _=>rfl)) (by rfl) (by first|exact .inl rfl|exact .inr rfl|assumption))
   (@a0b _ _ _ _ _ (@a0q _ _ 2 _ _ _ _ a6w.nd rfl (Or.inl rfl) (a0y a6b hr a0r (@a0a _ _ _ _ _ (pv 2) (@a0a _ _ _ _ _ (pv 4) (@a0a _ _ _ _ _ (pv 6) (@a0a _ _ _ _ _ (pv 1) a0c (by rfl)) (by rfl)) (by rfl)) (by rfl))) (by rfl) (by first|exact .inl rfl|exact .inr rfl|assumption))
   (@a0f _ _ _ (@a0q _ _ 3 _ _ _ _ a6w.nd rfl (Or.inl rfl) (a0k d3g (a0y a6b hr a0r (@a0a _ _ _ _ _ (pv 3) (@a0a _ _ _ _ _ (pv 4) (@a0a _ _ _ _ _ (pv 6) (@a0a _ _ _ _ _ (pv 1) a0c (by rfl)) (by rfl)) (by rfl)) (by rfl))) (@a5c _ _ _ _ (@a0a _ _ _ _ _ (pv 6) a0c (by rfl)))) (by rfl) (by first|exact .inl rfl|exact .inr rfl|assumption))))) a0x))))
   (@a0f _ _ _ (@a0t _ _ _ _ (pv 3))))))),?_⟩
 fail"st";fail"go";refine⟨l,n,as,rs,rfl,hl,hW,hC,hM.len,hn,fun H1 s1 _=>?_⟩;have sl1:SqL K H1 l (a1c as):=SqL.of (s1 _ _ hl);fail"go";refine⟨l,a1c as,rfl,.inl sl1,fun pr hpr=>?_⟩;have S1:=s1.trans (a0e hpr (.lst (a1c as)));have f1:(upd H1 pr (.lst (a1c as))) pr=some (.lst (a1c as)):=a0d;generalize upd H1 pr (.lst (a1c as))=G1 at S1 f1 ⊢;fail"go";rename_i pt hpt;have S2:=S1.trans (a0e hpt (.lst []));have f2:=a0e hpt (.lst []) _ _ f1;have f3:(upd G1 pt (.lst [])) pt=some (.lst (a1c [])):=a0d;have npt:H pt=none:=none_of S1 hpt;generalize upd G1 pt (.lst [])=G2 at S2 f2 f3 ⊢;have W2:a2a (Rt K G2) as rs:=hW.mono fun a d x=>Rt.same S2 x;have lrn:=hM.len;refine b1z (n:=2*n) (by omega) (fun P h=>?_) (fun i σ H'=>∃(u1 u2 u3:Option V) (pr pt:Addr) (bs cs:List Addr) (b1g told:List Row) (ls:List Nat),σ=[some (.ref l),some (.int n),some (.ref pr),some (.ref pt),u1,u2,u3]/\H' pr=some (.lst (a1c bs))/\a2a (Rt K H') bs b1g/\H' pt=some (.lst (a1c cs))/\a2a (Rt K H') cs told/\a1n H H'/\H pt=none/\Ti ds n i b1g told ls/\b1g.length=n) ⟨none,none,none,pr,pt,as,[],rs,[],[],rfl,f2,W2,f3,.nil,S2,npt,Ti.start hM,lrn⟩ ?_ ?_
 ·fail"go";rw[show (2:Int)*(n:Int)=((2*n:Nat):Int) by push_cast;rfl];exact h
 ·rintro i σ H' hi ⟨u1,u2,u3,pr,pt,bs,cs,b1g,told,ls,rfl,hpr,hB,hpt,hC,hS,hn0,hT,hlen⟩;have lbs:bs.length=n:=hB.len.trans hlen;have okr:∀r∈b1g,r.Ok n:=fun r hr=>(hT.wr r hr).ok hds;fail"go";refine a1z (fun P h=>⟨_,rfl,h⟩) (SqL.of hpr) (fun j ys H''=>H''=H'/\∃zs,ys=a1c zs/\a2a (Rt K H') zs ((b1g.take j).filter fun r=>(sn n r).testBit i)) (by rw[a0m];omega) ⟨rfl,[],rfl,.nil⟩ ?_ ?_ ?_ ?_
  ·rintro j ys H'' ⟨_,zs,rfl,e⟩;rw[a0m,e.len];exact A1z (List.length_filter_le _ _) (by rw[A0q];omega)
  ·rintro j ys H'' ⟨rfl,_⟩;exact SqL.of hpr
  ·rintro j x ys H'' hx ⟨rfl,zs,rfl,e⟩;obtain⟨b,hb,rfl⟩:=a1r hx;obtain⟨r,hr,hrb⟩:=hB.get hb;fail"go";refine⟨b,i,n,r,rfl,SqT.of hrb,okr r (List.mem_of_getElem? hr),hn,?_⟩;rw[a0s hr,List.filter_append]
   by_cases c:(sn n r).testBit i=true
   ·refine⟨_,rfl,?_⟩;rw[if_pos c];fail"go";refine⟨rfl,zs++[b],a2f _ _,?_⟩;rw[show [r].filter (fun r=>(sn n r).testBit i)=[r] from by simp[c]];exact e.snoc hrb
   ·refine⟨_,rfl,?_⟩;rw[if_neg c];refine⟨rfl,zs,rfl,?_⟩;rw[show [r].filter (fun r=>(sn n r).testBit i)=[] from by simp[c],A3d];exact e
  ·rintro ys H'' ⟨rfl,zs,rfl,e⟩ p5 hp5;rw[a0m,hB.len,A0t] at e;have S5:=a0e hp5 (.lst (a1c zs));have f5:(upd H'' p5 (.lst (a1c zs))) p5=some (.lst (a1c zs)):=a0d;generalize upd H'' p5 (.lst (a1c zs))=H5 at S5 f5 ⊢;fail"go";rename_i p6 hp6;have S6:=S5.trans (a0e hp6 (.lst []));have f6:=a0e hp6 (.lst []) _ _ f5;have f6':(upd H5 p6 (.lst [])) p6=some (.lst (a1c [])):=a0d;generalize upd H5 p6 (.lst [])=H6 at S6 f6 f6' ⊢;have E6:=e.mono fun a d (x:Rt K H'' a d)=>Rt.same S6 x;have B6:=hB.mono fun a d (x:Rt K H'' a d)=>Rt.same S6 x;have C6:=hC.mono fun a d (x:Rt K H'' a d)=>Rt.same S6 x;have r6:=S6 _ _ hpr;have t6:=S6 _ _ hpt;have s6:=hS.trans S6
   have lcs:cs.length<=80:=by
    have h1:=rise_len hT.rr.up hT.lt;have h2:=hT.rr.lo.len';rw[A0b] at h2;rw[hC.len];omega
   have hwr:=hT.wr;have hwt:=hT.wt;have hflt:∀r,r∈(b1g.filter fun r=>(sn n r).testBit i) ↔ r∈b1g/\(sn n r).testBit i=true:=fun r=>A8s;clear hB hC hpr hpt hS e S5 f5 hp5 S6 hp6 W2 f1 f2 f3 S1 S2 s1 sl1 npt;refine st_neRL (SqL.of f6) (SqL.of f6') E6 .nil fun cb hcb=>?_
   cases hz:(b1g.filter fun r=>(sn n r).testBit i) with
   | nil=>
    rw[hz] at hcb hflt
    have cb0:cb=false:=by cases cb with
     | false=>rfl
     | true=>exact absurd rfl (hcb.1 rfl)
    subst cb0;fail"go";refine⟨_,_,_,pr,pt,bs,cs,b1g,told,ls,rfl,r6,B6,t6,C6,s6,hn0,hT.none (fun r hr=>?_),hlen⟩
    cases eb:(sn n r).testBit i with
    | false=>rfl
    | true=>have:=(hflt r).2 ⟨hr,eb⟩;cases this
   | cons g gs=>
    rw[hz] at hcb E6 hflt;have cb1:cb=true:=hcb.2 (by intro z;cases z);subst cb1
    cases E6 with
    | cons hzg E7=>
     rename_i z zs';obtain⟨hg,hgb⟩:=(hflt g).1 A0d;fail"go";refine c8r (SqL.of f6) (b9u (j:=0) (refs_at (as:=z::zs') (i:=0) (a:=z) rfl)) ?_;fail"go";refine⟨pr,z,i,n,bs,b1g,g,rfl,r6,B6,by omega,hzg,fun r hr=>⟨okr r hr,(hwr r hr).com hds (hwr g hg)⟩,hn,fun p7 H7 bs' s7 np7 f7 W7=>?_⟩;fail"go";refine⟨pt,z,i,n,cs,told,g,rfl,s7 _ _ t6,C6.mono fun a d x=>Rt.same s7 x,by omega,Rt.same s7 hzg,fun r hr=>⟨(hwt r hr).ok hds,(hwt r hr).com hds (hwr g hg)⟩,hn,fun p8 H8 cs' s8 np8 f8 W8=>?_⟩;fail"go";rename_i p9 hp9;have l8:cs'.length=cs.length:=by rw[W8.len,A0b,C6.len]
     refine st_cat (a0e hp9 _ _ _ f8) a0d (by rw[a0m];show _+1<=_;omega) fun p10 hp10=>?_;have S9:=s8.trans ((a0e hp9 (.lst [.ref z])).trans (a0e hp10 (.lst (a1c cs'++[.ref z]))));have n10:H8 p10=none:=none_of (a0e hp9 (.lst [.ref z])) hp10;have S89:=(a0e hp9 (.lst [.ref z])).trans (a0e hp10 (.lst (a1c cs'++[.ref z])));fail"go";exact⟨_,_,_,p7,p10,bs',cs'++[z],b1g.map (stp n i g),told.map (stp n i g)++[g],ls++[i],rfl,S9 _ _ f7,W7.mono fun a d (x:Rt K H7 a d)=>Rt.same S9 x,by rw[a0d,a2f],(W8.mono fun a d (x:Rt K H8 a d)=>Rt.same S89 x).snoc (Rt.same (s7.trans S9) hzg),s6.trans (s7.trans S9),none_of (s6.trans (s7.trans s8)) n10,hT.some hds hg hgb,by rw[A0b];exact hlen⟩
 ·rintro σ H' ⟨u1,u2,u3,pr,pt,bs,cs,b1g,told,ls,rfl,hpr,hB,hpt,hC,hS,hn0,hT,hlen⟩;fail"go";exact q pt H' cs told ls hS hn0 hpt hC (hT.done hn hds)
include a4t a4q a1f a8j in theorem ok_deeds_of (F:Fun K "deeds_of" "deeds_of" c2v f fd):a2n P w K mg base CX0 3 f fd ["row"] (c7k K):=by
 refine F.ok b9f (by fail"ln") ?_;fail"fi";obtain⟨a,r,rfl,ha,hx,hz,q⟩:=h
 refine⟨_,(@a0b _ _ _ _ _ (@a0q _ _ 1 _ _ _ _ b9f.nd rfl (Or.inl rfl) (@a5c _ _ _ _ a0c) (by rfl) (by first|exact .inl rfl|exact .inr rfl|assumption))
   (@a0b _ _ _ _ _ (a4e A1d rfl (a1q (a0y a8j hr a0r (@a0a _ _ _ _ _ (a0k c3e (@a0u _ _ _ _ _ _ _ a0p (pv 0) (a1p a4t) (fun _ _=>rfl)) (@a0u _ _ _ _ _ _ _ a0p (pv 0) (a1p a4q) (fun _ _=>rfl))) a0c (by rfl)))) (a1g (i:=2) b9f.nd rfl (Or.inl rfl)) (@a0b _ _ _ _ _ (@a2c _ _ _ _ _ _ _ _ (@a0v _ _ _ _ _ _ _ _ a5t (a0y a1f hr a0r (@a0a _ _ _ _ _ (@a0u _ _ _ _ _ _ _ a0p (pv 0) (a1p a4q) (fun _ _=>rfl)) (@a0a _ _ _ _ _ (pv 2) a0c (by rfl)) (by rfl))) a0h (a1d _)) (@a0f _ _ _ (a1w (b8c A1j A6z A7a c8p (pv 1) (@a0a _ _ _ _ _ (@a5c _ _ _ _ (@a0a _ _ _ _ _ (@a1m _ _ _ _ _ (@a0a _ _ _ _ _ a1h (@a0a _ _ _ _ _ (pv 2) a0c (by rfl)) (by rfl))) (@a0a _ _ _ _ _ (@a1m _ _ _ _ _ (@a0a _ _ _ _ _ a1h (@a0a _ _ _ _ _ (pv 2) a0c (by rfl)) (by rfl))) a0c (by rfl)) (by rfl))) a0c (by rfl))))) a0x)
   (@a0f _ _ _ (@a2c _ _ _ _ _ _ _ _ (@a0v _ _ _ _ _ _ _ _ a5t (a0y a1f hr a0r (@a0a _ _ _ _ _ (@a0u _ _ _ _ _ _ _ a0p (pv 0) (a1p a4t) (fun _ _=>rfl)) (@a0a _ _ _ _ _ (pv 2) a0c (by rfl)) (by rfl))) a0h (a1d _)) (@a0f _ _ _ (a1w (b8c A1j A1r A1s a4d (pv 1) (@a0a _ _ _ _ _ (@a1m _ _ _ _ _ (@a0a _ _ _ _ _ a1h (@a0a _ _ _ _ _ (pv 2) a0c (by rfl)) (by rfl))) a0c (by rfl))))) a0x))))
   (@a0f _ _ _ (@a0t _ _ _ _ (pv 1))))),?_⟩
 fail"st";unfold Row.V at ha;fail"go";rename_i l kl;refine b2q ?_;have ha1:=(a0e kl (.lst [])).tup ha;fail"go";refine⟨r.x|||r.z,rfl,A0c (A3g hx hz) (A0g (by decide) (by decide)),fun p kp=>?_⟩;have hpl:p≠l:=fun z=>by rw[z,a0d] at kp;cases kp
 have hN:(pls (r.x|||r.z)).length<=100:=by
  unfold pls;rw[c3f];exact A1z (cnt_le _ _) (A1z (b7j (A3g hx hz)) (by decide))
 have eR:dsR r=dsK r (pls (r.x|||r.z)):=rfl;rw[eR] at q;generalize pls (r.x|||r.z)=N at hN q ⊢;refine b1s (SqL.of a0d) (fun i σ H'=>∃(u:Option V) (as:List Addr),σ=[some (.ref a),some (.ref l),u]/\H' l=some (.lst (as.map V.ref))/\Paired (WtA H') as (dsK r (N.take i))/\H' p=some (.lst (vn N))/\a1n H H') ⟨none,[],rfl,a0e kp _ _ _ a0d,.nil,a0d,(a0e kl _).trans (a0e kp _)⟩ ?_ ?_ ?_
 ·rintro i σ H' _ ⟨u,as,_,_,_,h,_⟩;exact SqL.of h
 ·rintro i x σ H' hx ⟨u,as,rfl,hl,hpr,hp,hS⟩;obtain⟨k,rfl,hk⟩:=vn_at hx;have hil:i<N.length:=(List.getElem?_eq_some_iff.mp hk).1
  have hal:as.length<=300:=by
   rw[pr_len hpr];have:=dsK_len r (N.take i);rw[A0q] at this;omega
  have ha2:=hS.tup ha;have et:dsK r (N.take (i+1))=dsK r (N.take i)++oneD r k:=by rw[take_succV hk,dsK_snoc]
  fail"go";refine⟨r.z,k,rfl,?_⟩;fail"go"
  cases hbz:r.z.testBit k with
  | false=>
   fail"kw";refine⟨r.x,k,rfl,?_⟩;fail"go"
   cases hbx:r.x.testBit k with
   | false=>
    have eo:oneD r k=[]:=by unfold oneD;rw[hbz,hbx];rfl
    fail"kw";exact⟨_,as,rfl,hl,by rw[et,eo,A3d];exact hpr,hp,hS⟩
   | true=>
    have eo:oneD r k=[⟨.over,[k]⟩]:=by unfold oneD;rw[hbz,hbx];rfl
    fail"kw";rename_i t1 kt1;have S1:a1n H' (upd H' t1 (.tup [.str "over",.int (k:Nat)])):=a0e kt1 _;have w1:WtA (upd H' t1 (.tup [.str "over",.int (k:Nat)])) t1 ⟨.over,[k]⟩:=a0d;have hl1:=S1 _ _ hl;refine⟨_,as++[t1],rfl,by rw[A0f];exact a0d,?_,?_,(hS.trans S1).updF kl⟩
    ·rw[et,eo];exact pr_app (d2g hl1 (wt_stay S1 hpr)) (d2g hl1 (.cons w1 .nil))
    ·rw[a0w hpl];exact S1 _ _ hp
  | true=>
   fail"kw";rename_i t1 kt1 t2 kt2 l2 kl2;have S1:a1n H' (upd (upd (upd H' t1 (.tup [.str "quarter",.int (k:Nat)])) t2 (.tup [.str "quarter",.int (k:Nat)])) l2 (.lst [.ref t1,.ref t2])):=by fail"sm"
   have w1:(upd (upd (upd H' t1 (.tup [.str "quarter",.int (k:Nat)])) t2 (.tup [.str "quarter",.int (k:Nat)])) l2 (.lst [.ref t1,.ref t2])) t1=some (.tup [.str "quarter",.int (k:Nat)]):=by fail"la"
   have w2:(upd (upd (upd H' t1 (.tup [.str "quarter",.int (k:Nat)])) t2 (.tup [.str "quarter",.int (k:Nat)])) l2 (.lst [.ref t1,.ref t2])) t2=some (.tup [.str "quarter",.int (k:Nat)]):=by fail"la"
   have hl1:=S1 _ _ hl;have hlx:(upd (upd H' t1 (.tup [.str "quarter",.int (k:Nat)])) t2 (.tup [.str "quarter",.int (k:Nat)])) l=some (.lst (as.map V.ref)):=by fail"la"
   have hl2:(upd (upd (upd H' t1 (.tup [.str "quarter",.int (k:Nat)])) t2 (.tup [.str "quarter",.int (k:Nat)])) l2 (.lst [.ref t1,.ref t2])) l2=some (.lst [.ref t1,.ref t2]):=a0d;generalize upd (upd (upd H' t1 (.tup [.str "quarter",.int (k:Nat)])) t2 (.tup [.str "quarter",.int (k:Nat)])) l2 (.lst [.ref t1,.ref t2])=G at S1 w1 w2 hl1 hl2 ⊢;refine st_extend hl1 hl2 (by rw[A0b];show _+2<=1000;omega) (fun z=>by rw[z,kl2] at hlx;cases hlx) ?_;have e2:as.map V.ref++[V.ref t1,.ref t2]=(as++[t1,t2]).map V.ref:=by rw[A0f];rfl
   rw[e2];have hpr2:Paired (WtA (upd G l (.lst ((as++[t1,t2]).map V.ref)))) (as++[t1,t2]) (dsK r (N.take i)++[⟨.quarter,[k]⟩,⟨.quarter,[k]⟩]):=pr_app (d2g hl1 (wt_stay S1 hpr)) (d2g hl1 (.cons w1 (.cons w2 .nil)));have hp2:(upd G l (.lst ((as++[t1,t2]).map V.ref))) p=some (.lst (vn N)):=by rw[a0w hpl];exact S1 _ _ hp
   have hS2:a1n H (upd G l (.lst ((as++[t1,t2]).map V.ref))):=(hS.trans S1).updF kl;have hlG:(upd G l (.lst ((as++[t1,t2]).map V.ref))) l=some (.lst ((as++[t1,t2]).map V.ref)):=a0d;have ha3:=hS2.tup ha;have hal2:(as++[t1,t2]).length<=302:=by rw[A0j];show _+2<=302;omega
   generalize upd G l (.lst ((as++[t1,t2]).map V.ref))=G2 at hpr2 hp2 hS2 hlG ha3 ⊢;generalize as++[t1,t2]=as2 at hpr2 hlG hal2 ⊢;fail"go";refine⟨r.x,k,rfl,?_⟩;fail"go"
   cases hbx:r.x.testBit k with
   | false=>
    have eo:oneD r k=[⟨.quarter,[k]⟩,⟨.quarter,[k]⟩]:=by unfold oneD;rw[hbz,hbx];rfl
    fail"kw";exact⟨_,as2,rfl,hlG,by rw[et,eo];exact hpr2,hp2,hS2⟩
   | true=>
    have eo:oneD r k=[⟨.quarter,[k]⟩,⟨.quarter,[k]⟩]++[⟨.over,[k]⟩]:=by unfold oneD;rw[hbz,hbx];rfl
    fail"kw";rename_i t3 kt3;have S3:a1n G2 (upd G2 t3 (.tup [.str "over",.int (k:Nat)])):=a0e kt3 _;have w3:WtA (upd G2 t3 (.tup [.str "over",.int (k:Nat)])) t3 ⟨.over,[k]⟩:=a0d;have hl3:=S3 _ _ hlG;refine⟨_,as2++[t3],rfl,by rw[A0f];exact a0d,?_,?_,(hS2.trans S3).updF kl⟩
    ·rw[et,eo,<- A6m];exact pr_app (d2g hl3 (wt_stay S3 hpr2)) (d2g hl3 (.cons w3 .nil))
    ·rw[a0w hpl];exact S3 _ _ hp2
 ·rintro σ H' ⟨u,as,rfl,hl,hpr,hp,hS⟩;rw[a6z,A0t] at hpr;fail"go";exact q l H' as kl hS hl hpr
local macro_rules|`(tactic| fail"h0")=>`(tactic| with_reducible first|refine st_dget2 ?_|refine st_dput ?_)
include a4v a5x a3h a3v a7t T_M d4b c0w d2x c1r c0u c_made b7h b3f in theorem c3j (F:Fun K "_law_put_right" "_law_put_right" a9c f fd):a2n P w K mg base CX0 8 f fd ["_law_code_here","_law_full","_law_rows","_law_n","_law_wrong_here","_law_many"] (b3h K a9v b5m):=by
 refine F.ok a1j (by fail"ln") ?_;fail"fi";obtain⟨p,l,l2,a,n,many,k,as,rs,rfl,u,hC,hl,hl2,hW,kp,hk,h0,hn,hm,ha,hu,hP,q⟩:=h;obtain⟨um,uok⟩:=c6z hm hu;have lW:=hW.len;have lrs:=kp.len;have p90:∀{v:Nat},v<2^n->v<2^90:=fun h=>A0c h (A0g (by decide) (by omega))
 refine⟨_,(@a0b _ _ _ _ _ (@a0q _ _ 6 _ _ _ _ a1j.nd rfl (Or.inl rfl) (b5d d4b hr a0r (@a0a _ _ _ _ _ (pv 3) a0c (by rfl))) (by rfl) (by first|exact .inl rfl|exact .inr rfl|assumption))
   (@a0b _ _ _ _ _ (a4e A1d rfl (a1q (a0y c_made hr a0r (@a0a _ _ _ _ _ (a9a b0d rfl a4v a8y (@a0a _ _ _ _ _ (pv 1) a0c (by rfl))) (@a0a _ _ _ _ _ (pv 3) a0c (by rfl)) (by rfl)))) (a1g (i:=7) a1j.nd rfl (Or.inl rfl)) (@a0f _ _ _ (a1w (b3p d2x hr a0r (pv 6) (@a0a _ _ _ _ _ (pv 7) a0c (by rfl))))))
   (@a0b _ _ _ _ _ (@a0q _ _ 8 _ _ _ _ a1j.nd rfl (Or.inl rfl) (a0y b7h hr a0r (@a0a _ _ _ _ _ (c9q c1r hr a0r (pv 6)) (@a0a _ _ _ _ _ (pv 3) a0c (by rfl)) (by rfl))) (by rfl) (by first|exact .inl rfl|exact .inr rfl|assumption))
   (@a0b _ _ _ _ _ (a4e A1d rfl (a1q (a0y b3f hr a0r (@a0a _ _ _ _ _ (pv 4) a0c (by rfl)))) (a1g (i:=7) a1j.nd rfl (Or.inl rfl)) (@a0f _ _ _ (a1w (b3p d2x hr a0r (pv 6) (@a0a _ _ _ _ _ (pv 7) a0c (by rfl))))))
   (@a0b _ _ _ _ _ (@a0q _ _ 9 _ _ _ _ a1j.nd rfl (Or.inl rfl) (@a5c _ _ _ _ a0c) (by rfl) (by first|exact .inl rfl|exact .inr rfl|assumption))
   (@a0b _ _ _ _ _ (a4e A1d rfl (a1q (pv 2)) (b8n rfl (a2b (a1g (i:=10) a1j.nd rfl (Or.inl rfl)) (a2b (a1g (i:=11) a1j.nd rfl (Or.inl rfl)) (a2b (a1g (i:=12) a1j.nd rfl (Or.inl rfl)) b2m)))) (@a0b _ _ _ _ _ (ps_asg (pe_mdN c0u hr a0r (pv 6) (@a0a _ _ _ _ _ (@a1m _ _ _ _ _ (@a0a _ _ _ _ _ a0h (@a0a _ _ _ _ _ (pv 11) (@a0a _ _ _ _ _ (pv 12) a0c (by rfl)) (by rfl)) (by rfl))) a0c (by rfl))) (b8n rfl (a2b (a1g (i:=13) a1j.nd rfl (Or.inl rfl)) (a2b (a1g (i:=14) a1j.nd rfl (Or.inl rfl)) b2m))))
   (@a0b _ _ _ _ _ (@a2c _ _ _ _ _ _ _ _ (@a0v _ _ _ _ _ _ _ _ op_notB (pv 14) c2n (a1d _)) (@a0f _ _ _ (@a0t _ _ _ _ c2n)) a0x)
   (@a0f _ _ _ (a1w (b8c A1j A1r A1s a4d (pv 9) (@a0a _ _ _ _ _ (a0k a1t (pv 13) (pv 10)) a0c (by rfl))))))))
   (@a0b _ _ _ _ _ (@a2c _ _ _ _ _ _ _ _ (PW.pt (b1h (@a0v _ _ _ _ _ _ _ _ (op_neD (b9q hr)) (pv 9) (a0y a3v hr a0r (@a0a _ _ _ _ _ (pv 2) (@a0a _ _ _ _ _ (pv 4) a0c (by rfl)) (by rfl))) (a1d _)) (b0y (@a0v _ _ _ _ _ _ _ _ (op_neD (b9q hr)) (b3p a5x hr a0r (pv 0) (@a0a _ _ _ _ _ (pv 4) a0c (by rfl))) (pv 9) (a1d _))))) (@a0f _ _ _ (@a0t _ _ _ _ c2n)) a0x)
   (@a0b _ _ _ _ _ (@a0q _ _ 15 _ _ _ _ a1j.nd rfl (Or.inl rfl) (b3p c0w hr a0r (pv 0) (@a0a _ _ _ _ _ (pv 9) (@a0a _ _ _ _ _ (pv 5) a0c (by rfl)) (by rfl))) (by rfl) (by first|exact .inl rfl|exact .inr rfl|assumption))
   (@a0b _ _ _ _ _ (@a2c _ _ _ _ _ _ _ _ (PW.pt (b1h (a4g (a3t (a0y a7t hr a0r (@a0a _ _ _ _ _ (pv 15) (@a0a _ _ _ _ _ (pv 3) a0c (by rfl)) (by rfl))))) (b1h (@a0v _ _ _ _ _ _ _ _ op_gt (a0y a3h hr a0r (@a0a _ _ _ _ _ (pv 15) a0c (by rfl))) (a0y a3h hr a0r (@a0a _ _ _ _ _ (pv 4) a0c (by rfl))) (a1d _)) (b0y (@a0v _ _ _ _ _ _ _ _ (op_neD (b9q hr)) (a0y a3v hr a0r (@a0a _ _ _ _ _ (pv 2) (@a0a _ _ _ _ _ (pv 15) a0c (by rfl)) (by rfl))) (pv 9) (a1d _)))))) (@a0f _ _ _ (@a0t _ _ _ _ c2n)) a0x)
   (@a0b _ _ _ _ _ (a4e A1d rfl (a1q (a0y b3f hr a0r (@a0a _ _ _ _ _ (pv 15) a0c (by rfl)))) (a1g (i:=7) a1j.nd rfl (Or.inl rfl)) (@a0f _ _ _ (a1w (b3p d2x hr a0r (pv 6) (@a0a _ _ _ _ _ (pv 7) a0c (by rfl))))))
   (@a0f _ _ _ (@a0t _ _ _ _ (b2j (op_eqD (b9q hr)) (a0y b7h hr a0r (@a0a _ _ _ _ _ (c9q c1r hr a0r (pv 6)) (@a0a _ _ _ _ _ (pv 3) a0c (by rfl)) (by rfl))) (pv 8) (a1d _)))))))))))))),?_⟩
 fail"st";fail"go";intro x dx nx ndx nxd;refine⟨x,n,rfl,h0,hn,dx,a0d,fun H1 B1 g1=>⟨rfl,?_⟩⟩;have S1:a1n H H1:=But.same (c9g nx ndx) B1 nx;clear B1;fail"go";refine b2q ?_;fail"go";refine⟨l,a1c as,rfl,.inl (S1.seq hl),fun p2 hp2=>?_⟩;have n2:=a0e hp2 (.lst (a1c as));have f2:(upd H1 p2 (.lst (a1c as))) p2=some (.lst (a1c as)):=a0d;have S2:=S1.trans n2;have g2:=g1.same n2;generalize upd H1 p2 (.lst (a1c as))=H2 at n2 f2 S2 g2 ⊢;fail"go";refine⟨p2,n,as,rs,rfl,f2,hW.mono fun a d x=>Rt.same S2 x,kp.cd',lrs,by omega,fun p3 H3 bs ds s3 f3 W3 hds l3 hacts=>?_⟩;have hwr:∀r∈rs,Wr ds n r:=fun r hr=>wr_of hds (kp.ok r hr) (hacts r hr);refine do_loop f3 W3 hds hn (g2.same s3) fun v7 H4 B4 g4=>?_;rw[List.nil_append] at g4;have S4:a1n H H4:=But.same (S2.trans s3) B4 nx;clear hacts f3 W3 f2 n2 g2 g1 B4 s3 S2 S1 hp2 l3;fail"go";obtain⟨dx4,a4,as4,hx4,_⟩:=id g4;refine a4r (d:=MK.sg) hx4 rfl ?_;fail"go";refine⟨x,n,pln ds n,rfl,g4,by rw[pln_len];exact hn,fun p5 as5 H5 s5 _ f5 W5=>?_⟩;fail"go";refine⟨p5,n,as5,ds,rfl,f5,W5,hds,by omega,fun p6 H6 bs6 ts ls s6 _ f6 W6 tl=>?_⟩;have S6:=S4.trans (s5.trans s6);have g6:=g4.same (s5.trans s6);clear f5 W5 s5 s6 g4 S4 hx4;fail"go";refine b2q ?_;fail"go";refine⟨a,u,rfl,SqT.of (S6 _ _ ha),p90 uok.x,p90 uok.z,fun p7 H7 bs7 _ s7 f7 P7=>?_⟩;refine do_loop f7 (pd_all2 P7) (dsR_oks uok) hn (g6.same s7) fun v7' H8 B8 g8=>?_;have S8:a1n H H8:=But.same (S6.trans s7) B8 nx;have f8:=(g6.same s7).stay B8 (by intro _ _ _ z;cases z) (s7 _ _ f6);have W8:a2a (Rt K H8) bs6 ts:=W6.mono fun b r y=>(g6.same s7).stay B8 (by intro _ _ _ z;cases z) (s7 _ _ y);have hds2:=oks_app hds (dsR_oks uok);clear f7 P7 B8 s7 f6 W6 S6;fail"go";rename_i p9 hp9;have Wk:a2a (Rt K H) (as.take k) (rs.take k):=hW.take k;have hwk:∀r∈rs.take k,Wr ds n r/\r.Ok n/\¬(r.x=0/\r.z=0):=fun r hr=>⟨hwr r (A1x hr),kp.ok r (A1x hr),kp.nz (A1x hr)⟩;have lk:(rs.take k).length<=9:=by rw[A0q];omega
 generalize rs.take k=rk at Wk hwk hC hP lk ⊢;generalize as.take k=ak at Wk hl2 ⊢;clear hwr hl hW kp lW lrs hk;have n9:=a0e hp9 (.lst []);refine a4m (fun P h=>⟨_,rfl,h⟩) ((S8.trans n9).seq hl2) (fun i σ H'=>∃(wa wb wc wd we:Option V),σ=[some (.ref p),some (.ref l),some (.ref l2),some (.int n),some (.ref a),some (.int many),some (.ref x),v7',some (.ref p6),some (.ref p9),wa,wb,wc,wd,we,none]/\a1n H8 H'/\H' p9=some (.lst (vn (sig (rk.take i) u)))) ⟨none,none,none,none,none,rfl,n9,a0d⟩ ?_ ?_ ?_
 ·rintro i σ H' _ ⟨_,_,_,_,_,_,s,_⟩;exact(S8.trans s).seq hl2
 ·rintro i y σ H' hy ⟨wa,wb,wc,wd,we,rfl,s,f9⟩;obtain⟨b,hb,rfl⟩:=a1r hy;obtain⟨r,hr',hrb⟩:=Wk.get hb;obtain⟨wr,ok,nz⟩:=hwk r (List.mem_of_getElem? hr');have hil:=(List.getElem?_eq_some_iff.1 hr').1;have S':=S8.trans s;have sq:SqT K H' b [.int (r.m:Int),.int (r.x:Int),.int (r.z:Int)]:=SqT.of (S' _ _ hrb);have g':=g8.same s;obtain⟨dx',a',as',hx',_⟩:=id g';fail"go";refine st_mdN ?_;fail"go";refine a4r (d:=MK.sg) hx' rfl ?_;fail"go";rename_i pt hpt;have nt:=a0e hpt (.tup [.int 0,.int (r.x:Int),.int (r.z:Int)]);refine⟨x,pt,n,ds++dsR u,r.x,r.z,r.m^^^(a2v r u).toNat,rfl,g'.same nt,hds2,hn,a0d,wr_flp hds uok wr,nz,fun p10 H10 s10 f10=>?_⟩;have s2:=nt.trans s10;have sq10:=SqT.of (K:=K) f10;have f9':=s2 _ _ f9;have sl:SqL K H10 p9 (vn (sig (rk.take i) u)):=SqL.of f9'
  have hle:(vn (sig (rk.take i) u)).length<=900:=by
   rw[a6z];unfold sig;rw[A0b,A0q];omega
  fail"go";refine⟨true,true,rfl,rfl,false,rfl,?_⟩;fail"go";have ex:r.m^^^(a2v r u).toNat^^^r.m=(a2v r u).toNat:=by rw[A4y r.m,xx]
  rw[ex];refine⟨_,_,_,_,_,rfl,But.same (s.trans s2) But.upd hp9,?_⟩;rw[a0d];unfold sig;rw[a0s hr',A0f,<- c2c];rfl
 ·rintro σ H' ⟨wa,wb,wc,wd,we,rfl,s,f9⟩;rw[a0m,Wk.len,A0t] at f9
  obtain⟨u0,hfd⟩:∃u0,(Wup n many).find? (hit rk (sig rk u))=some u0:=by
   cases e:(Wup n many).find? (hit rk (sig rk u)) with
   | none=>exact absurd (decide_eq_true rfl) (List.find?_eq_none.1 e u hu)
   | some u0=>exact⟨u0,rfl⟩
  have h0m:=List.mem_of_find?_eq_some hfd;have h0h:hit rk (sig rk u) u0=true:=List.find?_some hfd;have h0s:sig rk u0=sig rk u:=of_decide_eq_true h0h;have h0w:=find_le (c8v n many).1 hfd hu (decide_eq_true rfl);obtain⟨gm,gok⟩:=c6z hm h0m;have hHm:Hm n rk u u0:=Classical.byContradiction fun z=>hP ⟨u,hu,u0,h0m,h0s.symm,z⟩;have wk1:∀{G:Hp},a1n H8 G->SqL K G l2 (a1c ak)/\a2a (Rt K G) ak rk/\CoAt K a9v b5m G p n rk/\G a=some (.tup u.V):=fun t=>⟨(S8.trans t).seq hl2,Wk.mono fun a d x=>Rt.same (S8.trans t) x,hC.same (S8.trans t),(S8.trans t) _ _ ha⟩;have lak:ak.length<=9:=by rw[Wk.len];exact lk
  fail"go";obtain⟨e1,e2,e3,e4⟩:=wk1 s;refine⟨l2,a,ak,rk,u,rfl,e1,e2,lak,e4,fun p10 hp10=>?_⟩;have n10:=a0e hp10 (.lst (vn (sig rk u)));have q10:SqL K (upd H' p10 (.lst (vn (sig rk u)))) p10 (vn (sig rk u)):=SqL.of a0d;have f9:=n10 _ _ f9;have s10:=s.trans n10;generalize upd H' p10 (.lst (vn (sig rk u)))=H10 at n10 q10 f9 s10 ⊢;have q9:=SqL.of (K:=K) f9;rw[vnI] at q10 q9;fail"go";refine d4h q9 q10 ?_;rw[decide_eq_true rfl];fail"go";obtain⟨e1,e2,e3,e4⟩:=wk1 s10;obtain⟨dxc,lc,sc,lsc,asc,ssc,hpc,_⟩:=id e3;refine a4r hpc (b4k _ _ _ (by decide +kernel) (by decide +kernel) (by decide +kernel)) ?_;fail"go";refine⟨p,a,n,rk,u,rfl,e3,e4,lk,fun p11 hp11=>?_⟩;have n11:=a0e hp11 (.lst (vn (rk.map fun r=>(a2v r u).toNat)));have q11:SqL K (upd H10 p11 (.lst (vn (rk.map fun r=>(a2v r u).toNat)))) p11 (vn (sig rk u)):=SqL.of a0d;have f9:=n11 _ _ f9;have s11:=s10.trans n11;generalize upd H10 p11 (.lst (vn (rk.map fun r=>(a2v r u).toNat)))=H11 at n11 q11 f9 s11 ⊢;have q9:=SqL.of (K:=K) f9;have q9':=q9;rw[vnI] at q11 q9;fail"go";refine d4h q11 q9 ?_;rw[decide_eq_true rfl];fail"go";obtain⟨e1,e2,e3,e4⟩:=wk1 s11;obtain⟨dxc,lc,sc,lsc,asc,ssc,hpc,_⟩:=id e3;refine a4r hpc (b4k _ _ _ (by decide +kernel) (by decide +kernel) (by decide +kernel)) ?_;fail"go";refine⟨p,p9,many,n,rk,sig rk u,u0,rfl,e3,q9',hm,hn,lk,hfd,fun p12 H12 s12 f12=>?_⟩;fail"go";refine⟨p12,n,u0,rfl,f12,gok,by omega,fun H13 s13=>?_⟩;have f12:=s13 _ _ f12;have f9:=(s12.trans s13) _ _ f9;have s13':=s11.trans (s12.trans s13);obtain⟨e1,e2,e3,e4⟩:=wk1 s13';clear hpc q9 q9' q11 q10 s12 s13 n11 n10 s10 s11 s;fail"go";refine⟨p12,u0,rfl,SqT.of f12,?_⟩;fail"go";refine⟨a,u,rfl,SqT.of e4,?_⟩;fail"go";refine b8w (fun z=>absurd z (by omega)) (fun _=>?_);fail"go";refine⟨l2,p12,ak,rk,u0,rfl,e1,e2,lak,f12,fun p14 hp14=>?_⟩;have n14:=a0e hp14 (.lst (vn (sig rk u0)));have q14:SqL K (upd H13 p14 (.lst (vn (sig rk u0)))) p14 (vn (sig rk u0)):=SqL.of a0d;have q9:=SqL.of (K:=K) (n14 _ _ f9);have f12:=n14 _ _ f12;have s14:=s13'.trans n14;generalize upd H13 p14 (.lst (vn (sig rk u0)))=H14 at q14 q9 f12 s14 ⊢;rw[vnI] at q14 q9;rw[h0s] at q14;fail"go";refine d4h q14 q9 ?_;rw[decide_eq_true rfl];fail"go";refine b2q ?_;fail"go";refine⟨p12,u0,rfl,SqT.of f12,p90 gok.x,p90 gok.z,fun p15 H15 bs15 _ s15 f15 P15=>?_⟩;have g15:=g8.same (s14.trans s15);refine do_loop f15 (pd_all2 P15) (dsR_oks gok) hn g15 fun v7'' H16 B16 g16=>?_;rw[pln_app,pln_app,pln_back hds uok gok (fun r hr=>(hwk r hr).1) hHm] at g16;have f16:=g15.stay B16 (by intro _ _ _ z;cases z) ((s14.trans s15) _ _ f8);have W16:a2a (Rt K H16) bs6 ts:=W8.mono fun b r y=>g15.stay B16 (by intro _ _ _ z;cases z) ((s14.trans s15) _ _ y);have S16:a1n H H16:=But.same (S8.trans (s14.trans s15)) B16 nx;fail"go";obtain⟨dx16,a16,as16,hx16,_⟩:=id g16;refine a4r (d:=MK.sg) hx16 rfl ?_;fail"go";refine⟨x,n,pln ds n,rfl,g16,by rw[pln_len];exact hn,fun p17 as17 H17 s17 _ f17 W17=>?_⟩;fail"go";refine⟨p17,n,as17,ds,rfl,f17,W17,hds,by omega,fun p18 H18 bs18 ts' ls' s18 _ f18 W18 tl'=>?_⟩;obtain rfl:=Tl.one hds tl tl';have s8:=s17.trans s18;fail"go";exact st_eqR (SqL.of f18) (SqL.of (s8 _ _ f16)) W18 (W16.mono fun a d x=>Rt.same s8 x) (q _ (S16.trans s8))
include a4v T_C a2y k_Code a5d b3w a8h b1j a6g in theorem ok_law (F:Fun K "law" "law" d3m f fd):a2n P w K mg base CX0 9 f fd ["_law_script"] (sp_law K):=by
 refine F.ok b5s (by fail"ln") ?_;fail"fi";obtain⟨a,ns,rfl,ha,hz,q⟩:=h
 refine⟨_,(@a0b _ _ _ _ _ (ps_asg (a0y b3w hr a0r (@a0a _ _ _ _ _ (pv 0) a0c (by rfl))) (b8n rfl (a2b (a1g (i:=1) b5s.nd rfl (Or.inl rfl)) (a2b (a1g (i:=2) b5s.nd rfl (Or.inl rfl)) (a2b (a1g (i:=3) b5s.nd rfl (Or.inl rfl)) b2m)))))
   (@a0b _ _ _ _ _ (@a0q _ _ 4 _ _ _ _ b5s.nd rfl (Or.inl rfl) (b1u c3m (pv 2) b8x (b4g (pv 3))) (by rfl) (by first|exact .inl rfl|exact .inr rfl|assumption))
   (@a0b _ _ _ _ _ (@a0q _ _ 5 _ _ _ _ b5s.nd rfl (Or.inl rfl) (a0k a6d (a0y a2y hr a0r (@a0a _ _ _ _ _ (pv 0) (@a0a _ _ _ _ _ a0h a0c (by rfl)) (by rfl))) a0h) (by rfl) (by first|exact .inl rfl|exact .inr rfl|assumption))
   (@a0b _ _ _ _ _ (@a2c _ _ _ _ _ _ _ _ (@a0v _ _ _ _ _ _ _ _ a5t (pv 1) a0h (a1d _)) (@a0f _ _ _ (@a0q _ _ 5 _ _ _ _ b5s.nd rfl (Or.inl rfl) (a0k a6d (pv 5) a0h) (by rfl) (by first|exact .inl rfl|exact .inr rfl|assumption))) a0x)
   (@a0b _ _ _ _ _ (@a0q _ _ 6 _ _ _ _ b5s.nd rfl (Or.inl rfl) (b5d k_Code hr a0r (@a0a _ _ _ _ _ (pv 1) (@a0a _ _ _ _ _ (a9a b0d rfl a4v a8y (@a0a _ _ _ _ _ (pv 4) a0c (by rfl))) a0c (by rfl)) (by rfl))) (by rfl) (by first|exact .inl rfl|exact .inr rfl|assumption))
   (@a0b _ _ _ _ _ (@a0q _ _ 7 _ _ _ _ b5s.nd rfl (Or.inl rfl) (b3p a5d hr a0r (pv 6) (@a0a _ _ _ _ _ (pv 5) a0c (by rfl))) (by rfl) (by first|exact .inl rfl|exact .inr rfl|assumption))
   (@a0b _ _ _ _ _ (@a2c _ _ _ _ _ _ _ _ (@a0v _ _ _ _ _ _ _ _ op_notN (pv 7) c1q (a1d _)) (@a0f _ _ _ (@a0t _ _ _ _ (a0y a8h hr a0r (@a0a _ _ _ _ _ (pv 4) (@a0a _ _ _ _ _ (pv 7) (@a0a _ _ _ _ _ (pv 1) (@a0a _ _ _ _ _ (pv 5) a0c (by rfl)) (by rfl)) (by rfl)) (by rfl))))) a0x)
   (@a0b _ _ _ _ _ (a4e A1d rfl (a1q (a0k d3g (b1u c3m (pv 0) (b4g a0h) (b4g a0h)) (@a5c _ _ _ _ (@a0a _ _ _ _ _ a0h a0c (by rfl))))) (a1g (i:=8) b5s.nd rfl (Or.inl rfl)) (@a0b _ _ _ _ _ (@a0q _ _ 9 _ _ _ _ b5s.nd rfl (Or.inl rfl) (a0y b1j hr a0r (@a0a _ _ _ _ _ (pv 8) (@a0a _ _ _ _ _ (pv 1) (@a0a _ _ _ _ _ (pv 5) a0c (by rfl)) (by rfl)) (by rfl))) (by rfl) (by first|exact .inl rfl|exact .inr rfl|assumption))
   (@a0f _ _ _ (@a2c _ _ _ _ _ _ _ _ (a4g (a3t (a0y a6g hr a0r (@a0a _ _ _ _ _ (pv 6) (@a0a _ _ _ _ _ (pv 2) (@a0a _ _ _ _ _ (pv 4) (@a0a _ _ _ _ _ (pv 1) (@a0a _ _ _ _ _ (pv 9) (@a0a _ _ _ _ _ (pv 5) a0c (by rfl)) (by rfl)) (by rfl)) (by rfl)) (by rfl)) (by rfl))))) (@a0f _ _ _ (@a0t _ _ _ _ c2n)) a0x))))
   (@a0f _ _ _ (@a0t _ _ _ _ c2n)))))))))),?_⟩
 fail"st";fail"go";refine⟨a,ns,rfl,ha,fun p1 l H1 n m as rs s1 g1 f1 W1 kp n0 n9 hmn=>?_⟩;have lW:=W1.len;have lrs:=kp.len;have sq1:=SqT.of (K:=K) g1;have sl1:SqL K H1 l (a1c as):=SqL.of f1;fail"go";rename_i p2 hp2;have ec:c7g (a1c as) none (some (m:Int))=a1c (as.take m):=by rw[cut_takeV];exact List.map_take.symm
 rw[ec];have n2:=a0e hp2 (.lst (a1c (as.take m)));have f2:(upd H1 p2 (.lst (a1c (as.take m)))) p2=some (.lst (a1c (as.take m))):=a0d;have S2:=s1.trans n2;have f1:=n2 _ _ f1;have W2:=W1.mono fun b r (x:Rt K H1 b r)=>Rt.same n2 x;generalize upd H1 p2 (.lst (a1c (as.take m)))=H2 at n2 f2 S2 f1 W2 ⊢;clear sl1 sq1 g1 W1 hp2 n2 s1;refine⟨a,2,ns,rfl,S2.seq ha,fun c hc=>?_⟩;clear hc;fail"go";obtain⟨m3,em,hm3⟩:∃m3:Nat,c%3=(m3:Int)/\m3<3:=⟨(c%3).toNat,by omega,by omega⟩;rw[em];refine st_join (P:=fun nx=>∀mm:Nat,mm<=2->nx [some (.ref a),some (.int (n:Int)),some (.ref l),some (.int (m:Int)),some (.ref p2),some (.int (mm:Int)),none,none,none,none] H2) (fun mm hmm=>?_) (fun nx key=>?_)
 rotate_left
 ·refine b8w (fun _=>?_) (fun _=>?_)
  ·fail"go";obtain⟨m2,e2,h2⟩:∃m2:Nat,(m3:Int)%2=(m2:Int)/\m2<=2:=⟨((m3:Int)%2).toNat,by omega,by omega⟩;rw[e2];exact key m2 h2
  ·exact key m3 (by omega)
 fail"go";refine⟨p2,a1c (as.take m),rfl,.inl (SqL.of f2),fun p3 hp3=>?_⟩;have n3:=a0e hp3 (.lst (a1c (as.take m)));have f3:(upd H2 p3 (.lst (a1c (as.take m)))) p3=some (.lst (a1c (as.take m))):=a0d;generalize upd H2 p3 (.lst (a1c (as.take m)))=H3 at n3 f3 ⊢;fail"go";intro xc dc nxc ndc nxd;have sm:=c9g (C:=b5m .code) nxc ndc;have lk:(rs.take m).length<=9:=by rw[A0q];omega
 have W3:=W2.mono fun b r (x:Rt K H2 b r)=>Rt.same (n3.trans sm) x;refine⟨xc,n,p3,dc,as.take m,rs.take m,rfl,a0d,n0,n9,sm _ _ f3,W3.take m,kp.cd m,fun H4 B4 hC4=>⟨rfl,?_⟩⟩;have S4:a1n H2 H4:=n3.trans (But.same sm B4 nxc);clear W3 sm n3 f3 B4;fail"go";obtain⟨dxc,lc,sc,lsc,asc,ssc,hpc,_⟩:=id hC4;refine a4r hpc (b4k _ _ _ (by decide +kernel) (by decide +kernel) (by decide +kernel)) ?_;fail"go";refine⟨xc,mm,n,rs.take m,rfl,hC4,fun r hr=>kp.ok r (A1x hr),hmm,n9,lk,fun v H5 s5 hP=>?_⟩;have S5:=S4.trans s5;have f15:=S5 _ _ f1;have f25:=S5 _ _ f2;have W5:=W2.mono fun b r (x:Rt K H2 b r)=>Rt.same S5 x;have C5:=hC4.same s5;have S05:=S2.trans S5;clear hC4 hpc S4 s5 W2 f2 f1
 rcases id hP with ⟨rfl,hno⟩|⟨t,_,_,_,_,_,_,rfl,_⟩
 rotate_left
 ·fail"go";refine⟨rfl,_,rfl,iteB (fun _=>?_) (fun z=>by simp at z)⟩;fail"go";exact⟨p2,t,n,mm,as.take m,rs.take m,rfl,SqL.of f25,W5.take m,fun r hr=>kp.ok r (A1x hr),lk,n9,hmm,hP,fun H6 _=>q H6⟩
 ·fail"go";refine⟨rfl,_,rfl,iteB (fun z=>by simp at z) (fun _=>?_)⟩;fail"go";refine b2q ?_;have ha5:=S05.seq ha;fail"go";rename_i p6 hp6 p7 hp7;obtain⟨ms,ecm,hms⟩:=cut39 ns;rw[ecm] at hp7 ⊢;have n7:=(a0e hp6 (.lst (ms.map V.int))).trans (a0e hp7 (.lst [.int 0]));refine st_cat (a0e hp7 _ _ _ a0d) a0d (by rw[A0b];show _+1<=_;omega) fun p8 hp8=>?_;have n8:=n7.trans (a0e hp8 (.lst (ms.map V.int++[.int 0])));have f8:(upd (upd (upd H5 p6 (.lst (ms.map V.int))) p7 (.lst [.int 0])) p8 (.lst (ms.map V.int++[.int 0]))) p8=some (.lst ((ms++[0]).map V.int)):=by rw[a0d,A0f];rfl
  generalize upd (upd (upd H5 p6 (.lst (ms.map V.int))) p7 (.lst [.int 0])) p8 (.lst (ms.map V.int++[.int 0]))=H8 at n8 f8 ⊢;refine b1s (SqL.of f8) (fun i σ H'=>∃(va vb:Option V),σ=[some (.ref a),some (.int (n:Int)),some (.ref l),some (.int (m:Int)),some (.ref p2),some (.int (mm:Int)),some (.ref xc),some .non,va,vb]/\a1n H8 H') ⟨none,none,rfl,a1n.refl _⟩ ?_ ?_ ?_
  ·rintro i σ H' _ ⟨_,_,_,s⟩;exact SqL.of (s _ _ f8)
  ·rintro i y σ H' hy ⟨va,vb,rfl,s⟩;obtain⟨c',rfl⟩:=c8y hy;fail"go";refine⟨c',n,mm,rfl,n0,n9,hmm,fun p9 H9 u s9 f9 hu=>?_⟩;have S9:=n8.trans (s.trans s9);fail"go";refine⟨xc,l,p2,p9,n,mm,m,as,rs,rfl,u,C5.same S9,SqL.of (S9 _ _ f15),SqL.of (S9 _ _ f25),W5.mono fun b r x=>Rt.same S9 x,kp,hmn,n0,n9,hmm,f9,hu,hno,fun H10 s10=>?_⟩;fail"go";exact⟨_,_,rfl,s.trans (s9.trans s10)⟩
  ·rintro σ H' ⟨va,vb,rfl,s⟩;fail"go";exact q H'
end
abbrev NS (K:A0a)(x:Str)(a:Addr):Prop:=A6g K mainGlobals x=some (some (.ref a))
abbrev NZ (K:A0a)(x:Str):Prop:=A6g K mainGlobals x=some none
abbrev FI (K:A0a)(C:Addr)(x:Str)(a:Addr):Prop:=A2n K (.ref C) x=some (some (.ref a))
abbrev FN (K:A0a)(C:Addr)(x:Str):Prop:=A2n K (.ref C) x=some none
abbrev FA (K:A0a)(f:Addr)(x q:Str)(s:Stmt):Prop:=∃d,Fun K x q s f d
theorem cal_mk {mg:Str->Option Value}{x:Str}{f:Addr}(o:a2n P w K mg base CX k f fd ps sp)(b:c1m K fd ps [])(p:A3f K (.ref f)=true)(m:mg x=some (.ref f)):Cal P w K mg base CX k x ps sp:=⟨f,fd,o,b,p,m⟩
structure OwnC (K:A0a)(C:Addr):Prop where
 pg:A6t K C Str.empty=true
 hd:A7m K C=true
 po:A9q K C=true
 sa:A2n K (.ref C) "__setattr__" = some (some (.builtin "object.__setattr__"))
 mm:B0q K C=true
 kc:A3f K (.ref C)=true
theorem bnd1 (h:us.length=1):∃a,us=[a]:=List.length_eq_one_iff.1 h
theorem bnd2 (h:us.length=2):∃a b,us=[a,b]:=by cases us with|nil=>cases h|cons a l=>exact⟨a,(bnd1 (B0t h)).imp fun _ e=>congrArg _ e⟩
theorem bnd3 (h:us.length=3):∃a b c,us=[a,b,c]:=by cases us with|nil=>cases h|cons a l=>exact⟨a,(bnd2 (B0t h)).imp fun _ h=>h.imp fun _ e=>congrArg _ e⟩
theorem bnd4 (h:us.length=4):∃a b c d,us=[a,b,c,d]:=by cases us with|nil=>cases h|cons a l=>exact⟨a,(bnd3 (B0t h)).imp fun _ h=>h.imp fun _ h=>h.imp fun _ e=>congrArg _ e⟩
local macro_rules|`(tactic| fail"bn")=>`(tactic| exact fun _ _ _ _ _ _ us hl=>by first|(obtain⟨_,e⟩:=bnd1 hl;subst e;rfl)|(obtain⟨_,_,e⟩:=bnd2 hl;subst e;rfl)|(obtain⟨_,_,_,e⟩:=bnd3 hl;subst e;rfl)|(obtain⟨_,_,_,_,e⟩:=bnd4 hl;subst e;rfl))
theorem a2r {mg:Str->Option Value}{x y q:Str}{st:Stmt}{f:Addr}(KX:K.In h)(G:h.Ns mainGlobals mg)(o:a2n P w K mg base CX k f fd ps sp)(F:Fun K y q st f fd)(m:NS K x f)(b:∀(kV doc pm:Value) (an:Option Addr) (cdv ct:Value) (us:List Value),us.length=ps.length->bindArgs (A3s y q (a9f st) (a6r st) (a0g st) .none kV doc pm an cdv ct) ⟨us,[]⟩=pure (ps.zip us):=by fail"bn"):Cal P w K mg base CX k x ps sp:=⟨f,fd,o,F.binds b,F.kp,A2b KX G m⟩
theorem all_mk {l:B0s}{w:World}{mg:Str->Option Value}{d0 d1 d2 d3 d4 d5 d6 d7 d8 d9 d10 d11 d12 d13 d14 d15 d16 d17 d18 d19 d20 d21 d22 d23 d24 d25 d26 d27 d28 d29 d30 d31 d32 d33 d34 d35 d36 d37 d38 d39 d40 d41 d42 d43 d44 d45 d46 d47 d48 d49 d50 d51 d52 d53 d54 d55 d56 d57 d58 d59 d60 d61 d62 d63 d64 d65 d66 d67 d68 d69 d70 d71 d72 d73 d74 d75 d76 d77 d79 d80 d81 d82 d83 d84 d85 d86 d87 d88 d89 d90 d91 d92:FuncData}{fa f0 f1 f2 f3 f4 f5 f6 f7 f8 f9 f10 f11 f12 f13 f14 f15 f16 f17 f18 f19 f20 f21 f22 f23 f24 f25 f26 f27 f28 f29 f30 f31 f32 f33 f34 f35 f36 f37 f38 f39 f40 f41 f42 f43 f44 f45 f46 f47 f48 f49 f50 f51 f52 f53 f54 f55 f56 f57 f58 f59 f60 f61 f62 f63 f64 f65 f66 f67 f68 f69 f70 f71 f72 f73 f74 f75 f76 f77 f78 f79 f80 f81 f82 f83 f84 f85 f86 f87 f88 f89 f90 f91 f92 f93:Addr}{od78 an78 od93 an93:Option Addr}{sl78 sl93:Array (Option Value)}{oc78 kV78 dc78 pm78 ct78 cd78 oc93 kV93 dc93 pm93 ct93 cd93:Value}{dT78:Addr}{dv78:Value}{do78:Option Addr}{dn78:Nat}{dsl78:Array (Option Value)}{t_XS t_ZS t_MINUS b8a t_MOST_WIRES:Tok}{a2w a1e a2u a2x a1v a2t a3m a4f a2j b3d d2p a4y:Addr}{d6t:Addr}(KX:K.In h)(G:h.Ns mainGlobals mg)(hfa:mg "law" = some (.ref fa))
  (v_Over:NS K "Over" a2w)
  (v_Quarter:NS K "Quarter" a1e)
  (v_Back:NS K "Back" a2u)
  (v_Both:NS K "Both" a2x)
  (v_Where:NS K "Where" a1v)
  (v_Swap:NS K "Swap" a2t)
  (v_Span:NS K "Span" a3m)
  (v_Code:NS K "Code" a4f)
  (v_Signs:NS K "Signs" a2j)
  (v_Machine:NS K "Machine" b3d)
  (v_Deed:NS K "Deed" d2p)
  (mt_Machine___init__:FI K b3d "__init__" f42)
  (if_42:A1b K (.ref f42)=true)
  (mt_Deed___init__:FI K d2p "__init__" f55)
  (if_55:A1b K (.ref f55)=true)
  (mt_Span_left_of:FI K a3m "left_of" f0)
  (if_0:A1b K (.ref f0)=true)
  (mt_Span_take:FI K a3m "take" f2)
  (if_2:A1b K (.ref f2)=true)
  (mt_Span_rank:FI K a3m "rank" f7)
  (if_7:A1b K (.ref f7)=true)
  (mt_Span___init__:FI K a3m "__init__" f3)
  (if_3:A1b K (.ref f3)=true)
  (mt_Span_parts_of:FI K a3m "parts_of" f16)
  (if_16:A1b K (.ref f16)=true)
  (mt_Span_odd_with_last:FI K a3m "odd_with_last" f19)
  (if_19:A1b K (.ref f19)=true)
  (mt_Code_harmless:FI K a4f "harmless" f17)
  (if_17:A1b K (.ref f17)=true)
  (mt_Code_signs:FI K a4f "signs" f18)
  (if_18:A1b K (.ref f18)=true)
  (mt_Code_row_across:FI K a4f "row_across" f20)
  (if_20:A1b K (.ref f20)=true)
  (mt_Over_on_row:FI K a2w "on_row" f46)
  (if_46:A1b K (.ref f46)=true)
  (mt_Quarter_on_row:FI K a1e "on_row" f47)
  (if_47:A1b K (.ref f47)=true)
  (mt_Back_on_row:FI K a2u "on_row" f48)
  (if_48:A1b K (.ref f48)=true)
  (mt_Both_on_row:FI K a2x "on_row" f49)
  (if_49:A1b K (.ref f49)=true)
  (mt_Where_on_row:FI K a1v "on_row" f50)
  (if_50:A1b K (.ref f50)=true)
  (mt_Swap_on_row:FI K a2t "on_row" f52)
  (if_52:A1b K (.ref f52)=true)
  (mt_Swap___init__:FI K a2t "__init__" f56)
  (if_56:A1b K (.ref f56)=true)
  (mt_Over___init__:FI K a2w "__init__" f57)
  (if_57:A1b K (.ref f57)=true)
  (mt_Quarter___init__:FI K a1e "__init__" f58)
  (if_58:A1b K (.ref f58)=true)
  (mt_Back___init__:FI K a2u "__init__" f59)
  (if_59:A1b K (.ref f59)=true)
  (mt_Both___init__:FI K a2x "__init__" f60)
  (if_60:A1b K (.ref f60)=true)
  (mt_Where___init__:FI K a1v "__init__" f61)
  (if_61:A1b K (.ref f61)=true)
  (mt_Over_wires:FI K a2w "wires" f54)
  (if_54:A1b K (.ref f54)=true)
  (mt_Quarter_wires:FI K a1e "wires" f54)
  (mt_Back_wires:FI K a2u "wires" f54)
  (mt_Both_wires:FI K a2x "wires" f54)
  (mt_Where_wires:FI K a1v "wires" f54)
  (mt_Swap_wires:FI K a2t "wires" f54)
  (mt_Signs_follow:FI K a2j "follow" f53)
  (if_53:A1b K (.ref f53)=true)
  (mt_Signs_sure_value:FI K a2j "sure_value" f73)
  (if_73:A1b K (.ref f73)=true)
  (mt_Signs_settle:FI K a2j "settle" f74)
  (if_74:A1b K (.ref f74)=true)
  (mt_Over_undoing:FI K a2w "undoing" f81)
  (if_81:A1b K (.ref f81)=true)
  (mt_Quarter_undoing:FI K a1e "undoing" f81)
  (mt_Back_undoing:FI K a2u "undoing" f81)
  (mt_Both_undoing:FI K a2x "undoing" f81)
  (mt_Where_undoing:FI K a1v "undoing" f81)
  (mt_Swap_undoing:FI K a2t "undoing" f81)
  (mt_Over_words:FI K a2w "words" f79)
  (if_79:A1b K (.ref f79)=true)
  (mt_Quarter_words:FI K a1e "words" f79)
  (mt_Back_words:FI K a2u "words" f79)
  (mt_Both_words:FI K a2x "words" f79)
  (mt_Where_words:FI K a1v "words" f79)
  (mt_Swap_words:FI K a2t "words" f79)
  (mt_Signs___init__:FI K a2j "__init__" f43)
  (if_43:A1b K (.ref f43)=true)
  (mt_Code_guess:FI K a4f "guess" f44)
  (if_44:A1b K (.ref f44)=true)
  (mt_Signs_do:FI K a2j "do" f65)
  (if_65:A1b K (.ref f65)=true)
  (mt_Signs_rows:FI K a2j "rows" f66)
  (if_66:A1b K (.ref f66)=true)
  (mt_Signs_look:FI K a2j "look" f78)
  (if_78:A1b K (.ref f78)=true)
  (mt_Code___init__:FI K a4f "__init__" f15)
  (if_15:A1b K (.ref f15)=true)
  (mt_Code_parting_wrongs:FI K a4f "parting_wrongs" f24)
  (if_24:A1b K (.ref f24)=true)
  (F0:Fun K "left_of" "Span.left_of" b2p f0 d0)
  (a1:NS K "lowest_bit" f1)
  (F1:Fun K "lowest_bit" "lowest_bit" b7c f1 d1)
  (F2:Fun K "take" "Span.take" b8z f2 d2)
  (F3:Fun K "__init__" "Span.__init__" b0w f3 d3)
  (a4:NS K "ones" f4)
  (F4:Fun K "ones" "ones" s_ones f4 d4)
  (a5:NS K "goes_beside" f5)
  (F5:Fun K "goes_beside" "goes_beside" b3t f5 d5)
  (a6:NS K "all_beside" f6)
  (F6:Fun K "all_beside" "all_beside" a6u f6 d6)
  (F7:Fun K "rank" "Span.rank" b9v f7 d7)
  (a8:NS K "are_apart" f8)
  (F8:Fun K "are_apart" "are_apart" b9k f8 d8)
  (a9:NS K "is_whole_number" f9)
  (F9:Fun K "is_whole_number" "is_whole_number" a7s f9 d9)
  (a10:NS K "fits" f10)
  (F10:Fun K "fits" "fits" s_fits f10 d10)
  (a11:NS K "checked_row" f11)
  (F11:Fun K "checked_row" "checked_row" b0b f11 d11)
  (a12:NS K "is_row" f12)
  (F12:Fun K "is_row" "is_row" d5e f12 d12)
  (a13:NS K "signs_number" f13)
  (F13:Fun K "signs_number" "signs_number" b2x f13 d13)
  (a14:NS K "check_code" f14)
  (F14:Fun K "check_code" "check_code" a8w f14 d14)
  (F15:Fun K "__init__" "Code.__init__" a7c f15 d15)
  (F16:Fun K "parts_of" "Span.parts_of" b0u f16 d16)
  (F17:Fun K "harmless" "Code.harmless" b1b f17 d17)
  (F18:Fun K "signs" "Code.signs" b1k f18 d18)
  (F19:Fun K "odd_with_last" "Span.odd_with_last" a5w f19 d19)
  (F20:Fun K "row_across" "Code.row_across" a5p f20 d20)
  (a21:NS K "with_a_letter_more" f21)
  (F21:Fun K "with_a_letter_more" "with_a_letter_more" a5u f21 d21)
  (a22:NS K "wrongs_up_to" f22)
  (F22:Fun K "wrongs_up_to" "wrongs_up_to" b2u f22 d22)
  (a23:NS K "together" f23)
  (F23:Fun K "together" "together" c3h f23 d23)
  (F24:Fun K "parting_wrongs" "Code.parting_wrongs" a5h f24 d24)
  (a25:NS K "_law_cell_at" f25)
  (F25:Fun K "_law_cell_at" "_law_cell_at" b2s f25 d25)
  (a26:NS K "_law_known" f26)
  (F26:Fun K "_law_known" "_law_known" b6p f26 d26)
  (a27:NS K "_law_stream" f27)
  (F27:Fun K "_law_stream" "_law_stream" b3x f27 d27)
  (a28:NS K "_law_deed" f28)
  (F28:Fun K "_law_deed" "_law_deed" b9h f28 d28)
  (a29:NS K "_law_turns" f29)
  (F29:Fun K "_law_turns" "_law_turns" b6d f29 d29)
  (a30:NS K "_law_letters" f30)
  (F30:Fun K "_law_letters" "_law_letters" b2g f30 d30)
  (a31:NS K "_law_on" f31)
  (F31:Fun K "_law_on" "_law_on" c8c f31 d31)
  (a32:NS K "_law_behind" f32)
  (F32:Fun K "_law_behind" "_law_behind" b4m f32 d32)
  (a33:NS K "_law_code" f33)
  (F33:Fun K "_law_code" "_law_code" a6n f33 d33)
  (a34:NS K "_law_ones" f34)
  (F34:Fun K "_law_ones" "_law_ones" b9d f34 d34)
  (a35:NS K "_law_beside" f35)
  (F35:Fun K "_law_beside" "_law_beside" b3v f35 d35)
  (a36:NS K "_law_weight" f36)
  (F36:Fun K "_law_weight" "_law_weight" b4p f36 d36)
  (a37:NS K "_law_signs" f37)
  (F37:Fun K "_law_signs" "_law_signs" b2a f37 d37)
  (a38:NS K "_law_whole" f38)
  (F38:Fun K "_law_whole" "_law_whole" b6k f38 d38)
  (a39:NS K "_law_row" f39)
  (F39:Fun K "_law_row" "_law_row" b7p f39 d39)
  (a40:NS K "_law_parting" f40)
  (F40:Fun K "_law_parting" "_law_parting" a6c f40 d40)
  (a41:NS K "_law_wrong" f41)
  (F41:Fun K "_law_wrong" "_law_wrong" b6j f41 d41)
  (F42:Fun K "__init__" "Machine.__init__" a7j f42 d42)
  (F43:Fun K "__init__" "Signs.__init__" a6f f43 d43)
  (F44:Fun K "guess" "Code.guess" b7f f44 d44)
  (a45:NS K "bit_at" f45)
  (F45:Fun K "bit_at" "bit_at" d4g f45 d45)
  (F46:Fun K "on_row" "Over.on_row" b4e f46 d46)
  (F47:Fun K "on_row" "Quarter.on_row" a9j f47 d47)
  (F48:Fun K "on_row" "Back.on_row" b4d f48 d48)
  (F49:Fun K "on_row" "Both.on_row" b4b f49 d49)
  (F50:Fun K "on_row" "Where.on_row" b2r f50 d50)
  (a51:NS K "exchanged" f51)
  (F51:Fun K "exchanged" "exchanged" b9c f51 d51)
  (F52:Fun K "on_row" "Swap.on_row" b4a f52 d52)
  (F53:Fun K "follow" "Signs.follow" a8f f53 d53)
  (F54:Fun K "wires" "Deed.wires" b5v f54 d54)
  (F55:Fun K "__init__" "Deed.__init__" b0k f55 d55)
  (F56:Fun K "__init__" "Swap.__init__" b0p f56 d56)
  (F57:Fun K "__init__" "Over.__init__" b0z f57 d57)
  (F58:Fun K "__init__" "Quarter.__init__" a7g f58 d58)
  (F59:Fun K "__init__" "Back.__init__" b0j f59 d59)
  (F60:Fun K "__init__" "Both.__init__" b0s f60 d60)
  (F61:Fun K "__init__" "Where.__init__" a9n f61 d61)
  (a62:NS K "check_words" f62)
  (F62:Fun K "check_words" "check_words" a9y f62 d62)
  (a63:NS K "deed_of_words" f63)
  (F63:Fun K "deed_of_words" "deed_of_words" b0q f63 d63)
  (a64:NS K "deed_of" f64)
  (F64:Fun K "deed_of" "deed_of" c6p f64 d64)
  (F65:Fun K "do" "Machine.do" b5p f65 d65)
  (F66:Fun K "rows" "Signs.rows" b6m f66 d66)
  (a67:NS K "widest" f67)
  (F67:Fun K "widest" "widest" c6e f67 d67)
  (a68:NS K "places" f68)
  (F68:Fun K "places" "places" c6m f68 d68)
  (a69:NS K "letters_y" f69)
  (F69:Fun K "letters_y" "letters_y" b9s f69 d69)
  (a70:NS K "times" f70)
  (F70:Fun K "times" "times" s_times f70 d70)
  (a71:NS K "product_of" f71)
  (F71:Fun K "product_of" "product_of" b7d f71 d71)
  (a72:NS K "made_of" f72)
  (F72:Fun K "made_of" "made_of" b6n f72 d72)
  (F73:Fun K "sure_value" "Signs.sure_value" a7e f73 d73)
  (F74:Fun K "settle" "Signs.settle" b2k f74 d74)
  (a75:NS K "weight_of" f75)
  (F75:Fun K "weight_of" "weight_of" b9w f75 d75)
  (a76:NS K "check_look" f76)
  (F76:Fun K "check_look" "check_look" b6c f76 d76)
  (a77:NS K "value_drawn" f77)
  (F77:Fun K "value_drawn" "value_drawn" b4n f77 d77)
  (l78:K.lookup f78=some ⟨oc78,od78,.func (A3s "look" "Machine.look" (a9f a4w) (a6r a4w) (a0g a4w) (.ref dT78) kV78 dc78 pm78 an78 cd78 ct78),sl78⟩)
  (dt78:K.lookup dT78=some ⟨dv78,do78,.seq #[.none] dn78,dsl78⟩)
  (q78:A5r K cd78 "Machine.look" = true)
  (k78:A3f K (.ref f78)=true)
  (F79:Fun K "words" "Deed.words" b5r f79 d79)
  (a80:NS K "check_whole" f80)
  (F80:Fun K "check_whole" "check_whole" a7h f80 d80)
  (F81:Fun K "undoing" "Deed.undoing" b2f f81 d81)
  (a82:NS K "undone" f82)
  (F82:Fun K "undone" "undone" c5u f82 d82)
  (a83:NS K "at_wires" f83)
  (F83:Fun K "at_wires" "at_wires" c2z f83 d83)
  (a84:NS K "row_by" f84)
  (F84:Fun K "row_by" "row_by" d3k f84 d84)
  (a85:NS K "deeds_in" f85)
  (F85:Fun K "deeds_in" "deeds_in" b7n f85 d85)
  (a86:NS K "work_to_one_z" f86)
  (F86:Fun K "work_to_one_z" "work_to_one_z" b0g f86 d86)
  (a87:NS K "made" f87)
  (F87:Fun K "made" "made" s_made f87 d87)
  (a88:NS K "has_sign" f88)
  (F88:Fun K "has_sign" "has_sign" c3a f88 d88)
  (a89:NS K "without_sign" f89)
  (F89:Fun K "without_sign" "without_sign" a8d f89 d89)
  (a90:NS K "telling" f90)
  (F90:Fun K "telling" "telling" c0z f90 d90)
  (a91:NS K "deeds_of" f91)
  (F91:Fun K "deeds_of" "deeds_of" c2v f91 d91)
  (a92:NS K "_law_put_right" f92)
  (F92:Fun K "_law_put_right" "_law_put_right" a9c f92 d92)
  (a93:NS K "law" f93)
  (l93:K.lookup f93=some ⟨oc93,od93,.func (A3s "law" "law" (a9f d3m) (a6r d3m) (a0g d3m) .none kV93 dc93 pm93 an93 cd93 ct93),sl93⟩)
  (q93:A5r K cd93 "law" = true)
  (k93:A3f K (.ref f93)=true)
  (v_XS:A6g K mainGlobals "XS" = some (some (A7b 1 t_XS)))
  (v_ZS:A6g K mainGlobals "ZS" = some (some (A7b 2 t_ZS)))
  (v_MINUS:A6g K mainGlobals "MINUS" = some (some (A7b 0 t_MINUS)))
  (b8d:A6g K mainGlobals "MOST_WIRES_OF_CODE" = some (some (A7b 9 b8a)))
  (v_MOST_WIRES:A6g K mainGlobals "MOST_WIRES" = some (some (A7b 40 t_MOST_WIRES)))
  (d0u:A6g K mainGlobals "WIRES_BEHIND" = some (some (.ref a4y)))
  (c9z:PyProof.Rows.KTD.tabLook (PyProof.Rows.KTD.datLooks fun b=>K.lookup b) (fun b=>K.lookup b) a4y (([("over",1),("quarter",1),("back",1),("both",1),("where",2),("swap",2)]:List (Str×Int)).map fun p=>(p.1,PyProof.Rows.KTD.Dat.flat (.int p.2)))=true)
  (v_NoRow:NS K "NoRow" d6t) (x_NoRow:ExcK K d6t)
  (d3b:OwnC K a2w)
  (na_Over_word:FN K a2w "word")
  (d1a:FN K a2w "undoer")
  (na_Over_at:FN K a2w "at")
  (b2y:OwnC K a1e)
  (c7f:FN K a1e "word")
  (c2x:FN K a1e "undoer")
  (d5p:FN K a1e "at")
  (d2b:OwnC K a2u)
  (na_Back_word:FN K a2u "word")
  (d0n:FN K a2u "undoer")
  (na_Back_at:FN K a2u "at")
  (d2t:OwnC K a2x)
  (na_Both_word:FN K a2x "word")
  (d0d:FN K a2x "undoer")
  (na_Both_at:FN K a2x "at")
  (c2u:OwnC K a1v)
  (d6f:FN K a1v "word")
  (c6t:FN K a1v "undoer")
  (na_Where_at:FN K a1v "at")
  (d2w:OwnC K a2t)
  (na_Swap_word:FN K a2t "word")
  (d0p:FN K a2t "undoer")
  (na_Swap_at:FN K a2t "at")
  (d2c:OwnC K a3m)
  (na_Span_sums:FN K a3m "sums")
  (d6p:FN K a3m "taken")
  (d2s:OwnC K a4f)
  (na_Code_n:FN K a4f "n")
  (d0z:FN K a4f "checks")
  (na_Code_span:FN K a4f "span")
  (c2s:OwnC K a2j)
  (d3j:FN K a2j "kept")
  (na_Signs_n:FN K a2j "n")
  (b9n:A6h K (.ref b3d) "__getattribute__" = some (some (.builtin "type.__getattribute__")))
  (b9e:B0v K b3d (.type "type")=true)
  (b9p:B0w K (.ref b3d) (.type "type") "__init__" = some (.val (.ref f42)))
  (c4m:A6h K (.ref d2p) "__getattribute__" = some (some (.builtin "type.__getattribute__")))
  (c4u:B0v K d2p (.type "type")=true)
  (c4v:B0w K (.ref d2p) (.type "type") "__init__" = some (.val (.ref f55)))
  (z_all:NZ K "all")
  (z_enumerate:NZ K "enumerate")
  (z_len:NZ K "len")
  (z_isinstance:NZ K "isinstance")
  (z_int:NZ K "int")
  (z_bool:NZ K "bool")
  (z_tuple:NZ K "tuple")
  (z_list:NZ K "list")
  (z_reversed:NZ K "reversed")
  (z_range:NZ K "range")
  (z_max:NZ K "max")
  (z_str:NZ K "str")
  (z_min:NZ K "min") :
  ∃fd:FuncData,(∀(s:Shared) (v:Value),BindsTo s fd ⟨[v],[]⟩ [("_law_script",v)])/\∀base:Heap,K.In base->base.Ns mainGlobals mg->a2n l.prog w K mg base CX0 9 fa fd ["_law_script"] (sp_law K):=by
 have e:=hfa.symm.trans (A2b KX G a93);cases e;have b0:=F0.binds (ps:=["self","number","which"]) (by fail"bn");have b2:=F2.binds (ps:=["self","number"]) (by fail"bn");have b3:=F3.binds (ps:=["self","numbers"]) (by fail"bn");have b7:=F7.binds (ps:=["self"]) (by fail"bn");have b15:=F15.binds (ps:=["self","n","rows"]) (by fail"bn");have b16:=F16.binds (ps:=["self","number"]) (by fail"bn");have b17:=F17.binds (ps:=["self","wrong"]) (by fail"bn");have b18:=F18.binds (ps:=["self","wrong"]) (by fail"bn");have b19:=F19.binds (ps:=["self"]) (by fail"bn");have b20:=F20.binds (ps:=["self","wrong"]) (by fail"bn");have b24:=F24.binds (ps:=["self","many"]) (by fail"bn");have b42:=F42.binds (ps:=["self","n","most"]) (by fail"bn");have b43:=F43.binds (ps:=["self","n"]) (by fail"bn");have b44:=F44.binds (ps:=["self","signs","many"]) (by fail"bn");have b46:=F46.binds (ps:=["self","row"]) (by fail"bn");have b47:=F47.binds (ps:=["self","row"]) (by fail"bn");have b48:=F48.binds (ps:=["self","row"]) (by fail"bn");have b49:=F49.binds (ps:=["self","row"]) (by fail"bn");have b50:=F50.binds (ps:=["self","row"]) (by fail"bn");have b52:=F52.binds (ps:=["self","row"]) (by fail"bn");have b53:=F53.binds (ps:=["self","deed"]) (by fail"bn");have b54:=F54.binds (ps:=["self"]) (by fail"bn");have b55:=F55.binds (ps:=["self","word","undoer","at"]) (by fail"bn");have b56:=F56.binds (ps:=["self","j","k"]) (by fail"bn");have b57:=F57.binds (ps:=["self","k"]) (by fail"bn");have b58:=F58.binds (ps:=["self","k"]) (by fail"bn");have b59:=F59.binds (ps:=["self","k"]) (by fail"bn");have b60:=F60.binds (ps:=["self","k"]) (by fail"bn");have b61:=F61.binds (ps:=["self","j","k"]) (by fail"bn");have b65:=F65.binds (ps:=["self","words"]) (by fail"bn");have b66:=F66.binds (ps:=["self"]) (by fail"bn");have b73:=F73.binds (ps:=["self","row"]) (by fail"bn");have b74:=F74.binds (ps:=["self","row","value"]) (by fail"bn");have F78:=fund_mk (st:=a4w) l78 q78 k78 dt78;have b78:=F78.binds (ps:=["self","row","draw"]) (ds:=[]) fun _ _ _ _ _ _ _ us hl=>by obtain⟨_,_,_,e⟩:=bnd3 (us:=us) (by simpa using hl);subst e;exact⟨_,rfl,rfl⟩
 have bN78:=F78.binds (ps:=["self","row","draw"]) (ds:=[.none]) fun _ _ _ _ _ _ _ us hl=>by obtain⟨_,_,e⟩:=bnd2 (us:=us) (by simpa using hl);subst e;exact⟨_,rfl,rfl⟩
 have b79:=F79.binds (ps:=["self"]) (by fail"bn");have b81:=F81.binds (ps:=["self"]) (by fail"bn");have b92:=F92.binds (ps:=["_law_code_here","_law_full","_law_rows","_law_n","_law_wrong_here","_law_many"]) fun _ _ _ _ _ _ us hl=>match us,hl with|[_,_,_,_,_,_],_=>rfl
 have F93:=fun_mk (st:=d3m) l93 q93 k93;have a4t:GC mg "XS" (.int 1):=⟨_,A2b KX G v_XS,⟨_,rfl⟩⟩;have a4q:GC mg "ZS" (.int 2):=⟨_,A2b KX G v_ZS,⟨_,rfl⟩⟩;have a1s:GC mg "MINUS" (.int 0):=⟨_,A2b KX G v_MINUS,⟨_,rfl⟩⟩;have a3x:GC mg "MOST_WIRES_OF_CODE" (.int 9):=⟨_,A2b KX G b8d,⟨_,rfl⟩⟩;have b1w:GC mg "MOST_WIRES" (.int 40):=⟨_,A2b KX G v_MOST_WIRES,⟨_,rfl⟩⟩;have a4z:GTab K mg "WIRES_BEHIND" a4y [("over",1),("quarter",1),("back",1),("both",1),("where",2),("swap",2)]:=⟨A2b KX G d0u,c9z⟩;have c_NoRow:ExcC K mg "NoRow" d6t:=⟨A2b KX G v_NoRow,x_NoRow⟩;have a9z:mg "all" = none:=A2f KX G z_all;have a6p:mg "enumerate" = none:=A2f KX G z_enumerate;have a5v:mg "len" = none:=A2f KX G z_len;have a1a:mg "isinstance" = none:=A2f KX G z_isinstance;have d0e:mg "int" = none:=A2f KX G z_int;have c9d:mg "bool" = none:=A2f KX G z_bool;have a5r:mg "tuple" = none:=A2f KX G z_tuple;have a4v:mg "list" = none:=A2f KX G z_list;have a7v:mg "reversed" = none:=A2f KX G z_reversed;have a3q:mg "range" = none:=A2f KX G z_range;have c8g:mg "max" = none:=A2f KX G z_max;have b_str:mg "str" = none:=A2f KX G z_str;have b_min:mg "min" = none:=A2f KX G z_min;have T_D:Txt_D K (a5b a2w a1e a2u a2x a1v a2t):=⟨(fun d=>match d with|.over=>⟨d3b.pg,d3b.hd,d3b.po,d3b.sa⟩|.quarter=>⟨b2y.pg,b2y.hd,b2y.po,b2y.sa⟩|.back=>⟨d2b.pg,d2b.hd,d2b.po,d2b.sa⟩|.both=>⟨d2t.pg,d2t.hd,d2t.po,d2t.sa⟩|.wher=>⟨c2u.pg,c2u.hd,c2u.po,c2u.sa⟩|.swap=>⟨d2w.pg,d2w.hd,d2w.po,d2w.sa⟩),(fun d=>match d with|.over=>na_Over_word|.quarter=>c7f|.back=>na_Back_word|.both=>na_Both_word|.wher=>d6f|.swap=>na_Swap_word),(fun d=>match d with|.over=>d1a|.quarter=>c2x|.back=>d0n|.both=>d0d|.wher=>c6t|.swap=>d0p),(fun d=>match d with|.over=>na_Over_at|.quarter=>d5p|.back=>na_Back_at|.both=>na_Both_at|.wher=>na_Where_at|.swap=>na_Swap_at)⟩;have T_S:Txt_S K (a6s a3m):=⟨(fun d=>match d with|.span=>⟨d2c.pg,d2c.hd,d2c.po,d2c.sa⟩),(fun d=>match d with|.span=>na_Span_sums),(fun d=>match d with|.span=>d6p)⟩;have T_C:Txt_C K (b3j a4f):=⟨(fun d=>match d with|.code=>⟨d2s.pg,d2s.hd,d2s.po,d2s.sa⟩),(fun d=>match d with|.code=>na_Code_n),(fun d=>match d with|.code=>d0z),(fun d=>match d with|.code=>na_Code_span)⟩;have T_M:Txt_M K (a9r a2j):=⟨(fun d=>match d with|.sg=>⟨c2s.pg,c2s.hd,c2s.po,c2s.sa⟩),(fun d=>match d with|.sg=>d3j),(fun d=>match d with|.sg=>na_Signs_n)⟩;refine⟨A3s "law" "law" (a9f d3m) (a6r d3m) (a0g d3m) .none kV93 dc93 pm93 an93 cd93 ct93,fun s v=>.of_eq rfl,fun base KB _=>?_⟩;have d1f:=c8n (P:=l.prog) (w:=w) (mg:=mg) (base:=base) T_S F0;have o_lowest_bit:=d6j (P:=l.prog) (w:=w) (mg:=mg) (base:=base)  F1;have a6k:∀d:SK,b3r l.prog w K mg base CX0 1 ((a6s a3m) d) "left_of" ["self","number","which"] (c3v K (a6s a3m) d):=fun d=>match d with|.span=>⟨T_S.cl .span,f0,_,⟨mt_Span_left_of,if_0,F0.kp⟩,(d1f).mono (by decide),b0⟩
 have a5j:=a2r KX G o_lowest_bit F1 a1;have o_Span_take:=ok_Span_take T_S a6k a5j F2;have c5v:∀d:SK,b3r l.prog w K mg base CX0 2 ((a6s a3m) d) "take" ["self","number"] (sp_S_take K (a6s a3m) d):=fun d=>match d with|.span=>⟨T_S.cl .span,f2,_,⟨mt_Span_take,if_2,F2.kp⟩,(o_Span_take).mono (by decide),b2⟩
 have c7a:=c5b T_S c5v F3;have o_ones:=ok_ones (P:=l.prog) (w:=w) (mg:=mg) (base:=base)  F4;have a8r:=a2r KX G o_ones F4 a4;have d4k:=d0f a4t a4q a8r F5;have a2d:=a2r KX G d4k F5 a5;have o_all_beside:=d6m a9z a6p a2d F6;have o_Span_rank:=ok_Span_rank (P:=l.prog) (w:=w) (mg:=mg) (base:=base) T_S a5v F7;have c5w:∀d:SK,b3r l.prog w K mg base CX0 1 ((a6s a3m) d) "rank" ["self"] (sp_S_rank K (a6s a3m) d):=fun d=>match d with|.span=>⟨T_S.cl .span,f7,_,⟨mt_Span_rank,if_7,F7.kp⟩,(o_Span_rank).mono (by decide),b7⟩
 have b3a:d6v l.prog w K mg base CX0 3 "Span" ((a6s a3m) .span) ["self","numbers"] (a9d K (a6s a3m)):=⟨f3,_,⟨d2c.mm,mt_Span___init__,if_3,d2c.kc⟩,c7a,b3,A2b KX G v_Span⟩;have o_are_apart:=ok_are_apart T_S a5v c5w b3a F8;have c2p:=c0f (P:=l.prog) (w:=w) (mg:=mg) (base:=base) a1a d0e c9d F9;have o_fits:=ok_fits (P:=l.prog) (w:=w) (mg:=mg) (base:=base)  F10;have c_fits:=a2r KX G o_fits F10 a10;have a1k:=a2r KX G c2p F9 a9;have d5h:=d1h a4t a4q a9z a5v a1a a5r a1s c_fits a1k F11;have a4h:=a2r KX G d5h F11 a11;have o_is_row:=ok_is_row c_NoRow a4h F12;have d1b:=c8w (P:=l.prog) (w:=w) (mg:=mg) (base:=base) a4t a4q F13;have a5e:=a2r KX G o_all_beside F6 a6;have a6q:=a2r KX G o_are_apart F8 a8;have b3y:=a2r KX G o_is_row F12 a12;have a0z:=a2r KX G d1b F13 a13;have o_check_code:=d4s a9z a5v a1a a1k a3x a5e a6q a4v b3y a0z F14;have b1m:=a2r KX G o_check_code F14 a14;have c6q:=c5m T_S b3a a4v a0z T_C b1m F15;have c7c:=c5h a6k F16;have a5g:∀d:SK,b3r l.prog w K mg base CX0 2 ((a6s a3m) d) "parts_of" ["self","number"] (c0k K (a6s a3m) d):=fun d=>match d with|.span=>⟨T_S.cl .span,f16,_,⟨mt_Span_parts_of,if_16,F16.kp⟩,(c7c).mono (by decide),b16⟩
 have c7m:=c4t a0z T_C a5g F17;have o_Code_signs:=d5s (a9v:=(a6s a3m)) a2d T_C F18;have b8e:=b6b T_S a8r a7v F19;have a5n:∀d:SK,b3r l.prog w K mg base CX0 2 ((a6s a3m) d) "odd_with_last" ["self"] (b1v K (a6s a3m) d):=fun d=>match d with|.span=>⟨T_S.cl .span,f19,_,⟨mt_Span_odd_with_last,if_19,F19.kp⟩,(b8e).mono (by decide),b19⟩
 have c3c:=c0t T_S a4t a4q b3a a0z T_C a5n F20;have b8f:=b6s (P:=l.prog) (w:=w) (mg:=mg) (base:=base) a4t a4q a3q F21;have a3y:=a2r KX G b8f F21 a21;have d1v:=c8x a3q a3y F22;have o_together:=ok_together (P:=l.prog) (w:=w) (mg:=mg) (base:=base) a4t a4q F23;have b1p:∀d:CK,b3r l.prog w K mg base CX0 3 ((b3j a4f) d) "harmless" ["self","wrong"] (c1c K (a6s a3m) (b3j a4f) d):=fun d=>match d with|.code=>⟨T_C.cl .code,f17,_,⟨mt_Code_harmless,if_17,F17.kp⟩,(c7m).mono (by decide),b17⟩
 have a5x:∀d:CK,b3r l.prog w K mg base CX0 3 ((b3j a4f) d) "signs" ["self","wrong"] (d2h K (a6s a3m) (b3j a4f) d):=fun d=>match d with|.code=>⟨T_C.cl .code,f18,_,⟨mt_Code_signs,if_18,F18.kp⟩,(o_Code_signs).mono (by decide),b18⟩
 have a8c:∀d:CK,b3r l.prog w K mg base CX0 5 ((b3j a4f) d) "row_across" ["self","wrong"] (b6x K (a6s a3m) (b3j a4f) d):=fun d=>match d with|.code=>⟨T_C.cl .code,f20,_,⟨mt_Code_row_across,if_20,F20.kp⟩,(c3c).mono (by decide),b20⟩
 have a3w:=a2r KX G d1v F22 a22;have b7s:=a2r KX G o_together F23 a23;have b5q:=b5k a5r T_C b1p a5x a8c a3w b7s F24;have d0q:=c9b (P:=l.prog) (w:=w) (mg:=mg) (base:=base) a5v F25;have o__law_known:=d6u (P:=l.prog) (w:=w) (mg:=mg) (base:=base)  F26;have d3w:=d0g (P:=l.prog) (w:=w) (mg:=mg) (base:=base) a3q F27;have a2k:=a2r KX G d3w F27 a27;have o__law_deed:=ok__law_deed a2k c8g F28;have a6j:=a2r KX G o__law_deed F28 a28;have o__law_turns:=d3q a6j F29;have d0s:=c6r (P:=l.prog) (w:=w) (mg:=mg) (base:=base) a6p F30;have o__law_on:=ok__law_on (P:=l.prog) (w:=w) (mg:=mg) (base:=base)  F31;have c0j:=a2r KX G o__law_on F31 a31;have d4t:=d0w c0j F32;have a2y:=a2r KX G d0q F25 a25;have b2c:=a2r KX G o__law_known F26 a26;have b1q:=a2r KX G o__law_turns F29 a29;have a5z:=a2r KX G d0s F30 a30;have a7b:=a2r KX G d4t F32 a32;have o__law_code:=ok__law_code a5v a3q a2k a6j a2y b2c b1q a5z a7b F33;have o__law_ones:=ok__law_ones (P:=l.prog) (w:=w) (mg:=mg) (base:=base)  F34;have a5k:=a2r KX G o__law_ones F34 a34;have d5u:=d0v a5k F35;have d6k:=d0m a5k F36;have a3g:=a2r KX G d5u F35 a35;have o__law_signs:=d7d d0e a3g F37;have o__law_whole:=d4d (P:=l.prog) (w:=w) (mg:=mg) (base:=base) a1a d0e c9d F38;have b1x:=a2r KX G o__law_whole F38 a38;have o__law_row:=ok__law_row a9z a5v a1a a5r b1x F39;have a3h:=a2r KX G d6k F36 a36;have a3v:=a2r KX G o__law_signs F37 a37;have a7t:=a2r KX G o__law_row F39 a39;have d1m:=c9p a9z a5v a1a a5r a3g a3h a3v a7t F40;have o__law_wrong:=d3y a2k F41;have c0x:=b9b a1k T_M F42;have a4k:CCal l.prog w K mg base CX0 2 "Machine" "__init__" ["self","n","most"] (a6m K (a9r a2j)):=⟨b3d,f42,_,A2b KX G v_Machine,⟨b9n,b9e,b9p,F42.kp⟩,c0x,b42⟩;have c5f:=c2r a3q T_M a4k b1w F43;have o_Code_guess:=d4r T_C a5x a3w F44;have o_bit_at:=ok_bit_at (P:=l.prog) (w:=w) (mg:=mg) (base:=base)  F45;have a1f:=a2r KX G o_bit_at F45 a45;have d6a:=d1e a4t a4q a1s T_D a1f F46;have c4q:=c3k a4t a4q a1s T_D a1f F47;have d6r:=d1d a4t a4q a1s T_D a1f F48;have d6b:=d0h a4t a4q a1s T_D a1f F49;have d1p:=c6s a4t a4q a1s T_D a1f F50;have o_exchanged:=ok_exchanged a1f F51;have b1e:=a2r KX G o_exchanged F51 a51;have d6s:=d0y a4t a4q a1s T_D b1e F52;have a7r:∀d:DK,b3r l.prog w K mg base CX0 3 ((a5b a2w a1e a2u a2x a1v a2t) d) "on_row" ["self","row"] (c9y K (a5b a2w a1e a2u a2x a1v a2t) d):=fun d=>match d with|.over=>⟨T_D.cl .over,f46,_,⟨mt_Over_on_row,if_46,F46.kp⟩,(d6a).mono (by decide),b46⟩|.quarter=>⟨T_D.cl .quarter,f47,_,⟨mt_Quarter_on_row,if_47,F47.kp⟩,(c4q).mono (by decide),b47⟩|.back=>⟨T_D.cl .back,f48,_,⟨mt_Back_on_row,if_48,F48.kp⟩,(d6r).mono (by decide),b48⟩|.both=>⟨T_D.cl .both,f49,_,⟨mt_Both_on_row,if_49,F49.kp⟩,(d6b).mono (by decide),b49⟩|.wher=>⟨T_D.cl .wher,f50,_,⟨mt_Where_on_row,if_50,F50.kp⟩,(d1p).mono (by decide),b50⟩|.swap=>⟨T_D.cl .swap,f52,_,⟨mt_Swap_on_row,if_52,F52.kp⟩,(d6s).mono (by decide),b52⟩
 have d1n:=c6u T_M a7r F53;have a6v:=d4e (P:=l.prog) (w:=w) (mg:=mg) (base:=base) a4v T_D F54;have c7t:=c4k (P:=l.prog) (w:=w) (mg:=mg) (base:=base) T_D F55;have a1b:CCal l.prog w K mg base CX0 1 "Deed" "__init__" ["self","word","undoer","at"] (a9m K (a5b a2w a1e a2u a2x a1v a2t)):=⟨d2p,f55,_,A2b KX G v_Deed,⟨c4m,c4u,c4v,F55.kp⟩,c7t,b55⟩;have c9m:=c4z a1b F56;have c9t:=c5q a1b F57;have c0c:=b9m a1b F58;have c8d:=c4w a1b F59;have c7p:=c4n a1b F60;have c5e:=c3g a1b F61;have d5x:=d1j a9z a5v a1a a5r a1k a4z b_str F62;have k_Swap:d6v l.prog w K mg base CX0 2 "Swap" ((a5b a2w a1e a2u a2x a1v a2t) .swap) ["self","j","k"] (a9h K (a5b a2w a1e a2u a2x a1v a2t)):=⟨f56,_,⟨d2w.mm,mt_Swap___init__,if_56,d2w.kc⟩,c9m,b56,A2b KX G v_Swap⟩;have k_Over:d6v l.prog w K mg base CX0 2 "Over" ((a5b a2w a1e a2u a2x a1v a2t) .over) ["self","k"] (a9e K (a5b a2w a1e a2u a2x a1v a2t)):=⟨f57,_,⟨d3b.mm,mt_Over___init__,if_57,d3b.kc⟩,c9t,b57,A2b KX G v_Over⟩;have c2h:d6v l.prog w K mg base CX0 2 "Quarter" ((a5b a2w a1e a2u a2x a1v a2t) .quarter) ["self","k"] (a6h K (a5b a2w a1e a2u a2x a1v a2t)):=⟨f58,_,⟨b2y.mm,mt_Quarter___init__,if_58,b2y.kc⟩,c0c,b58,A2b KX G v_Quarter⟩;have k_Back:d6v l.prog w K mg base CX0 2 "Back" ((a5b a2w a1e a2u a2x a1v a2t) .back) ["self","k"] (a9k K (a5b a2w a1e a2u a2x a1v a2t)):=⟨f59,_,⟨d2b.mm,mt_Back___init__,if_59,d2b.kc⟩,c8d,b59,A2b KX G v_Back⟩;have k_Both:d6v l.prog w K mg base CX0 2 "Both" ((a5b a2w a1e a2u a2x a1v a2t) .both) ["self","k"] (a9p K (a5b a2w a1e a2u a2x a1v a2t)):=⟨f60,_,⟨d2t.mm,mt_Both___init__,if_60,d2t.kc⟩,c7p,b60,A2b KX G v_Both⟩;have d4f:d6v l.prog w K mg base CX0 2 "Where" ((a5b a2w a1e a2u a2x a1v a2t) .wher) ["self","j","k"] (a8a K (a5b a2w a1e a2u a2x a1v a2t)):=⟨f61,_,⟨c2u.mm,mt_Where___init__,if_61,c2u.kc⟩,c5e,b61,A2b KX G v_Where⟩;have b0a:=a2r KX G d5x F62 a62;have c7n:=c4r T_D k_Swap k_Over c2h k_Back k_Both d4f b0a b_min F63;have c0v:∀d:DK,b3r l.prog w K mg base CX0 1 ((a5b a2w a1e a2u a2x a1v a2t) d) "wires" ["self"] (d2d K (a5b a2w a1e a2u a2x a1v a2t) d):=fun d=>match d with|.over=>⟨T_D.cl .over,f54,_,⟨mt_Over_wires,if_54,F54.kp⟩,(a6v).mono (by decide),b54⟩|.quarter=>⟨T_D.cl .quarter,f54,_,⟨mt_Quarter_wires,if_54,F54.kp⟩,(a6v).mono (by decide),b54⟩|.back=>⟨T_D.cl .back,f54,_,⟨mt_Back_wires,if_54,F54.kp⟩,(a6v).mono (by decide),b54⟩|.both=>⟨T_D.cl .both,f54,_,⟨mt_Both_wires,if_54,F54.kp⟩,(a6v).mono (by decide),b54⟩|.wher=>⟨T_D.cl .wher,f54,_,⟨mt_Where_wires,if_54,F54.kp⟩,(a6v).mono (by decide),b54⟩|.swap=>⟨T_D.cl .swap,f54,_,⟨mt_Swap_wires,if_54,F54.kp⟩,(a6v).mono (by decide),b54⟩
 have a3r:=a2r KX G c7n F63 a63;have o_deed_of:=ok_deed_of c8g c0v a3r F64;have b7m:∀d:MK,b3r l.prog w K mg base CX0 4 ((a9r a2j) d) "follow" ["self","deed"] (c8k K (a5b a2w a1e a2u a2x a1v a2t) (a9r a2j) d):=fun d=>match d with|.sg=>⟨T_M.cl .sg,f53,_,⟨mt_Signs_follow,if_53,F53.kp⟩,(d1n).mono (by decide),b53⟩
 have b0x:=a2r KX G o_deed_of F64 a64;have o_Machine_do:=d5r T_M b7m b0x F65;have o_Signs_rows:=d3x (P:=l.prog) (w:=w) (mg:=mg) (base:=base) a4v T_M F66;have o_widest:=ok_widest (P:=l.prog) (w:=w) (mg:=mg) (base:=base) a4t a4q c8g F67;have o_places:=ok_places a3q a1f F68;have o_letters_y:=ok_letters_y a4t a4q a8r F69;have b1c:=a2r KX G o_letters_y F69 a69;have o_times:=ok_times a4t a4q a8r a2d a1s b1c F70;have b4h:=a2r KX G o_times F70 a70;have o_product_of:=d5a b4h F71;have c6d:=a2r KX G o_widest F67 a67;have a8j:=a2r KX G o_places F68 a68;have b2b:=a2r KX G o_product_of F71 a71;have o_made_of:=ok_made_of T_S b3a a1s a0z a5g c6d a8j b2b F72;have c0d:=a2r KX G o_made_of F72 a72;have c1v:=b8y T_M c0d F73;have d1c:=d0a a4t a4q a2d T_M b4h F74;have o_weight_of:=ok_weight_of a4t a4q a8r F75;have b4w:=a2r KX G o_weight_of F75 a75;have o_check_look:=d5g a1s a4h b4w F76;have d5t:=d1s (P:=l.prog) (w:=w) (mg:=mg) (base:=base)  F77;have a8p:∀d:MK,b3r l.prog w K mg base CX0 6 ((a9r a2j) d) "sure_value" ["self","row"] (b6h K (a9r a2j) d):=fun d=>match d with|.sg=>⟨T_M.cl .sg,f73,_,⟨mt_Signs_sure_value,if_73,F73.kp⟩,(c1v).mono (by decide),b73⟩
 have b7k:∀d:MK,b3r l.prog w K mg base CX0 4 ((a9r a2j) d) "settle" ["self","row","value"] (c7b K (a9r a2j) d):=fun d=>match d with|.sg=>⟨T_M.cl .sg,f74,_,⟨mt_Signs_settle,if_74,F74.kp⟩,(d1c).mono (by decide),b74⟩
 have b1y:=a2r KX G o_check_look F76 a76;have a9x:=a2r KX G d5t F77 a77;have d0k:=c7s T_M a8p b7k b1y a9x F78;have a6y:=d5w (P:=l.prog) (w:=w) (mg:=mg) (base:=base) T_D F79;have d5k:=d1k a9z a5v a1a a5e a6q a4v b3y a0z F80;have a4x:=c7j (P:=l.prog) (w:=w) (mg:=mg) (base:=base) T_D F81;have b4v:∀d:DK,b3r l.prog w K mg base CX0 1 ((a5b a2w a1e a2u a2x a1v a2t) d) "undoing" ["self"] (c4e K (a5b a2w a1e a2u a2x a1v a2t) d):=fun d=>match d with|.over=>⟨T_D.cl .over,f81,_,⟨mt_Over_undoing,if_81,F81.kp⟩,(a4x).mono (by decide),b81⟩|.quarter=>⟨T_D.cl .quarter,f81,_,⟨mt_Quarter_undoing,if_81,F81.kp⟩,(a4x).mono (by decide),b81⟩|.back=>⟨T_D.cl .back,f81,_,⟨mt_Back_undoing,if_81,F81.kp⟩,(a4x).mono (by decide),b81⟩|.both=>⟨T_D.cl .both,f81,_,⟨mt_Both_undoing,if_81,F81.kp⟩,(a4x).mono (by decide),b81⟩|.wher=>⟨T_D.cl .wher,f81,_,⟨mt_Where_undoing,if_81,F81.kp⟩,(a4x).mono (by decide),b81⟩|.swap=>⟨T_D.cl .swap,f81,_,⟨mt_Swap_undoing,if_81,F81.kp⟩,(a4x).mono (by decide),b81⟩
 have o_undone:=ok_undone a7v a3r b4v F82;have o_at_wires:=ok_at_wires (P:=l.prog) (w:=w) (mg:=mg) (base:=base) a4t a4q a1s F83;have o_row_by:=ok_row_by a7r F84;have o_deeds_in:=ok_deeds_in b0x F85;have c8a:=c4j a4t a4q a1s a1f a8j F86;have c0b:∀d:DK,b3r l.prog w K mg base CX0 1 ((a5b a2w a1e a2u a2x a1v a2t) d) "words" ["self"] (d3e K (a5b a2w a1e a2u a2x a1v a2t) d):=fun d=>match d with|.over=>⟨T_D.cl .over,f79,_,⟨mt_Over_words,if_79,F79.kp⟩,(a6y).mono (by decide),b79⟩|.quarter=>⟨T_D.cl .quarter,f79,_,⟨mt_Quarter_words,if_79,F79.kp⟩,(a6y).mono (by decide),b79⟩|.back=>⟨T_D.cl .back,f79,_,⟨mt_Back_words,if_79,F79.kp⟩,(a6y).mono (by decide),b79⟩|.both=>⟨T_D.cl .both,f79,_,⟨mt_Both_words,if_79,F79.kp⟩,(a6y).mono (by decide),b79⟩|.wher=>⟨T_D.cl .wher,f79,_,⟨mt_Where_words,if_79,F79.kp⟩,(a6y).mono (by decide),b79⟩|.swap=>⟨T_D.cl .swap,f79,_,⟨mt_Swap_words,if_79,F79.kp⟩,(a6y).mono (by decide),b79⟩
 have a4j:=a2r KX G d5k F80 a80;have c6j:=a2r KX G o_undone F82 a82;have b7x:=a2r KX G o_at_wires F83 a83;have c5y:=a2r KX G o_row_by F84 a84;have b7t:=a2r KX G o_deeds_in F85 a85;have a7a:=a2r KX G c8a F86 a86;have o_made:=ok_made a5j a4t a4q c0b a4j c6j b7x c5y b7t a7a F87;have o_has_sign:=ok_has_sign a0z a1f F88;have a7y:=a2r KX G o_has_sign F88 a88;have d0r:=c8u b4h a7y F89;have a6b:=a2r KX G d0r F89 a89;have o_telling:=ok_telling a4v a3q a4j a7y a6b F90;have o_deeds_of:=ok_deeds_of a4t a4q a1f a8j F91;have d4b:d6v l.prog w K mg base CX0 3 "Signs" ((a9r a2j) .sg) ["self","n"] (a7u K (a9r a2j)):=⟨f43,_,⟨c2s.mm,mt_Signs___init__,if_43,c2s.kc⟩,c5f,b43,A2b KX G v_Signs⟩;have c0w:∀d:CK,b3r l.prog w K mg base CX0 4 ((b3j a4f) d) "guess" ["self","signs","many"] (d2j K (a6s a3m) (b3j a4f) d):=fun d=>match d with|.code=>⟨T_C.cl .code,f44,_,⟨mt_Code_guess,if_44,F44.kp⟩,(o_Code_guess).mono (by decide),b44⟩
 have d2x:∀d:MK,b3r l.prog w K mg base CX0 6 ((a9r a2j) d) "do" ["self","words"] (sp_M_do K (a5b a2w a1e a2u a2x a1v a2t) (a9r a2j) d):=fun d=>match d with|.sg=>⟨T_M.cl .sg,f65,_,⟨mt_Signs_do,if_65,F65.kp⟩,(o_Machine_do).mono (by decide),b65⟩
 have c1r:∀d:MK,b3r l.prog w K mg base CX0 1 ((a9r a2j) d) "rows" ["self"] (sp_M_rows K (a9r a2j) d):=fun d=>match d with|.sg=>⟨T_M.cl .sg,f66,_,⟨mt_Signs_rows,if_66,F66.kp⟩,(o_Signs_rows).mono (by decide),b66⟩
 have c0u:∀d:MK,MCalN l.prog w K mg base CX0 7 ((a9r a2j) d) "look" ["self","row","draw"] (sp_M_look K (a9r a2j) d):=fun d=>match d with|.sg=>⟨T_M.cl .sg,f78,_,⟨mt_Signs_look,if_78,k78⟩,(d0k).mono (by decide),bN78⟩
 have c_made:=a2r KX G o_made F87 a87;have b7h:=a2r KX G o_telling F90 a90;have b3f:=a2r KX G o_deeds_of F91 a91;have c5n:=c3j a4v a5x a3h a3v a7t T_M d4b c0w d2x c1r c0u c_made b7h b3f F92;have k_Code:d6v l.prog w K mg base CX0 7 "Code" ((b3j a4f) .code) ["self","n","rows"] (a9g K (a6s a3m) (b3j a4f)):=⟨f15,_,⟨d2s.mm,mt_Code___init__,if_15,d2s.kc⟩,c6q,b15,A2b KX G v_Code⟩;have a5d:∀d:CK,b3r l.prog w K mg base CX0 6 ((b3j a4f) d) "parting_wrongs" ["self","many"] (b0t K (a6s a3m) (b3j a4f) d):=fun d=>match d with|.code=>⟨T_C.cl .code,f24,_,⟨mt_Code_parting_wrongs,if_24,F24.kp⟩,(b5q).mono (by decide),b24⟩
 have b3w:=a2r KX G o__law_code F33 a33;have a8h:=a2r KX G d1m F40 a40;have b1j:=a2r KX G o__law_wrong F41 a41;have a6g:=cal_mk c5n b92 F92.kp (A2b KX G a92);exact ok_law a4v T_C a2y k_Code a5d b3w a8h b1j a6g F93
theorem walk {l:B0s}{q:Program}{loose:List Str}{XP:(Str->Option Value)->Heap->Prop}{YP:World->Heap->Prop}{d:DefRec}{K:Params->A0a}(hn:l.most=some 63)(hdf:d.params.defaults=[])
  (hY:∀(w:World) (h:Heap),YP w h->(K w.params).In h)
  (F:∀(w:World) (mg:Str->Option Value) (fa:Addr) (h:Heap),(K w.params).In h->h.Ns mainGlobals mg->mg d.name=some (.ref fa)->
   ∃fd:FuncData,(∀(s:Shared) (u:Value),BindsTo s fd ⟨[u],[]⟩ [("_law_script",u)])/\∀base:Heap,(K w.params).In base->base.Ns mainGlobals mg->a2n l.prog w (K w.params) mg base CX0 9 fa fd ["_law_script"] (sp_law (K w.params))) :
  PySem.W.WalkO q loose XP YP l.row.toRowW d [] (fun f vs=>B1u f vs):=
 L2.walk_of (n:=63) (k:=9) (x:="_law_script") (CX:=fun _=>CX0) (sp:=fun w=>sp_law (K w.params)) hn (by decide) hdf ⟨rfl,by decide,by decide⟩ hY F (fun _ _ a ns hl _ hS=>⟨a,ns,rfl,hS,hl,fun _=>rfl⟩) fun _ _ _ _ _ z=>z
end Tw
open PySem PySem.W PyProof.Rows
local macro_rules|`(tactic| fail"ci")=>`(tactic| (show _=_;k_is))
local macro_rules|`(tactic| fail"ck")=>`(tactic| (show _=_;first|k_is|k_exc|kernel_rfl))
local macro_rules|`(tactic| fail"cs")=>`(tactic| (constructor<;>first|k_is|k_exc|kernel_rfl))
local macro_rules|`(tactic| fail"fa")=>`(tactic| (refine' L2.fun_mk ?l9 ?q9 ?k9;(case l9=>k_is);(case q9=>first|k_is|k_exc|kernel_rfl);(case k9=>first|k_is|k_exc|kernel_rfl)))
set_option maxRecDepth 100000 in
set_option maxHeartbeats 0 in
theorem PySem.Challenge.cw_twinwires_k92_whole_what_went_wrong_is_p_holds : PySem.Challenge.rw_twinwires_k92_whole_what_went_wrong_is_p.Holds := by
 w_on;refine PySem.W.holds_law Tw.ws fun said=>?_
 refine Tw.holds_once Tw.run0 Tw.run1 (by kernel_rfl) (fun _=>by kernel_rfl) (by kernel_rfl) (by rfl) (by rfl) (by rfl) (by rfl) (by first|assumption|decide +kernel) (by decide +kernel) ⟨rfl,rfl,rfl,rfl,rfl,by decide +kernel⟩ ?hw ?hc
 (case hw=>w_witness2)
 k_fill
 refine Tw.walk (l:=PySem.Challenge.rw_twinwires_k92_whole_what_went_wrong_is_p) rfl rfl (fun w h Y=>PySem.W.kIn_of Y) ?F
 case F=>
  intro w mg fa h KX G hmg;refine' Tw.all_mk KX G hmg ?_ ?_ ?_ ?_ ?_ ?_ ?_ ?_ ?_ ?_ ?_ ?_ ?_ ?_ ?_ ?_ ?_ ?_ ?_ ?_ ?_ ?_ ?_ ?_ ?_ ?_ ?_ ?_ ?_ ?_ ?_ ?_ ?_ ?_ ?_ ?_ ?_ ?_ ?_ ?_ ?_ ?_ ?_ ?_ ?_ ?_ ?_ ?_ ?_ ?_ ?_ ?_ ?_ ?_ ?_ ?_ ?_ ?_ ?_ ?_ ?_ ?_ ?_ ?_ ?_ ?_ ?_ ?_ ?_ ?_ ?_ ?_ ?_ ?_ ?_ ?_ ?_ ?_ ?_ ?_ ?_ ?_ ?_ ?_ ?_ ?_ ?_ ?_ ?_ ?_ ?_ ?_ ?_ ?_ ?_ ?_ ?_ ?_ ?_ ?_ ?_ ?_ ?_ ?_ ?_ ?_ ?_ ?_ ?_ ?_ ?_ ?_ ?_ ?_ ?_ ?_ ?_ ?_ ?_ ?_ ?_ ?_ ?_ ?_ ?_ ?_ ?_ ?_ ?_ ?_ ?_ ?_ ?_ ?_ ?_ ?_ ?_ ?_ ?_ ?_ ?_ ?_ ?_ ?_ ?_ ?_ ?_ ?_ ?_ ?_ ?_ ?_ ?_ ?_ ?_ ?_ ?_ ?_ ?_ ?_ ?_ ?_ ?_ ?_ ?_ ?_ ?_ ?_ ?_ ?_ ?_ ?_ ?_ ?_ ?_ ?_ ?_ ?_ ?_ ?_ ?_ ?_ ?_ ?_ ?_ ?_ ?_ ?_ ?_ ?_ ?_ ?_ ?_ ?_ ?_ ?_ ?_ ?_ ?_ ?_ ?_ ?_ ?_ ?_ ?_ ?_ ?_ ?_ ?_ ?_ ?_ ?_ ?_ ?_ ?_ ?_ ?_ ?_ ?_ ?_ ?_ ?_ ?_ ?_ ?_ ?_ ?_ ?_ ?_ ?_ ?_ ?_ ?_ ?_ ?_ ?_ ?_ ?_ ?_ ?_ ?_ ?_ ?_ ?_ ?_ ?_ ?_ ?_ ?_ ?_ ?_ ?_ ?_ ?_ ?_ ?_ ?_ ?_ ?_ ?_ ?_ ?_ ?_ ?_ ?_ ?_ ?_ ?_ ?_ ?_ ?_ ?_ ?_ ?_ ?_ ?_ ?_ ?_ ?_ ?_ ?_ ?_ ?_ ?_ ?_ ?_ ?_ ?_ ?_ ?_ ?_ ?_ ?_ ?_ ?_ ?_ ?_ ?_ ?_ ?_ ?_ ?_ ?_ ?_ ?_ ?_ ?_ ?_ ?_ ?_ ?_ ?_ ?_ ?_ ?_ ?_ ?_
  all_goals first|fail"ci" | fail"ck" | fail"fa" | (show Tw.OwnC _ _;fail"cs")|(show L2.ExcK _ _;fail"cs")|skip
